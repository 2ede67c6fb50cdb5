/-
  NK: the library's functions on texts, by their contracts on the shelf, and the program's sorts.
-/
import Derived.Test.YtogipbgfnjbakaaDoorNJ
import Derived.Test.YtogipbgfnjbakaaDoorShelf
set_option maxRecDepth 100000
namespace Go.Proofs.YtogipbgfnjbakaaDoor
open Go.RowKit
/-- The variable of the library's that a search reads holds a number. -/
def Mw (w : World) : Prop := ∃ m, w.cell? ⟨0, 0, none⟩ = some (.int .i64 m) ∧ 0 < w.heap.size
theorem Mw.below {w w' : World} (h : Mw w) (hb : Below w.heap.size w w') : Mw w' := by
  obtain ⟨m, hm, hg⟩ := h
  exact ⟨m, (hb.cell (p := ⟨_, 0, none⟩) hg).trans hm, Nat.lt_of_lt_of_le hg hb.size⟩
theorem Mw.drew {w : World} (h : Mw w) : Mw w.drew := h
theorem Mw.drewN {w : World} (h : Mw w) (n : Nat) : Mw (w.drewN n) := h
theorem strCut_c (s : ByteArray) (c : UInt8) (w : World) (hM : Mw w) (hs : s.size < 4294967281) : Calls Tryd.prog 26 #[.string s, .string ⟨#[c]⟩] w fun e w' =>
    e = .returned (.tuple #[.string (stz (upA c.toNat (bts s))), .string (stz (dnA c.toNat (bts s))), .bool ((bts s).any (· == c.toNat))]) ∧ ∃ n, w' = w.drewN n := by
  obtain ⟨m, hm, _⟩ := hM
  obtain ⟨h1, h2, h3⟩ := cut_one s.data.toList c
  refine (Tryd.strings_Cut s ⟨#[c]⟩ m w hs hm).mono ?_
  rintro e w' ⟨rfl, hw⟩
  refine ⟨?_, hw⟩
  show Ending.returned (.tuple #[.string ⟨(Lib.cut s.data.toList [c]).1.toArray⟩, .string ⟨(Lib.cut s.data.toList [c]).2.1.toArray⟩, .bool (Lib.cut s.data.toList [c]).2.2]) = _
  rw [stz_map (Lib.cut s.data.toList [c]).1, stz_map (Lib.cut s.data.toList [c]).2.1, h1, h2, h3]; rfl
theorem replAll_c (s : ByteArray) (c : UInt8) (w : World) (hM : Mw w) (hs : s.size < 4294967281) : Calls Tryd.prog 27 #[.string s, .string ⟨#[c]⟩, .string ⟨#[]⟩] w fun e w' =>
    e = .returned (.string (stz ((bts s).filter (· != c.toNat)))) ∧ Below w.heap.size w w' := by
  obtain ⟨m, hm, _⟩ := hM
  refine (Tryd.strings_ReplaceAll s ⟨#[c]⟩ ⟨#[]⟩ m w hs hm (Nat.le_refl 1) (by show s.size + _ * 0 ≤ _; omega)).mono ?_
  rintro e w' ⟨rfl, hw⟩
  refine ⟨?_, hw⟩
  rw [stz_map]
  show Ending.returned (.string (stz ((Lib.replaceAll s.data.toList [c] []).map UInt8.toNat))) = _
  rw [replA_one]; rfl
theorem strCount_c (s : ByteArray) (c : UInt8) (w : World) : Calls Tryd.prog 38 #[.string s, .string ⟨#[c]⟩] w fun e w' =>
    e = .returned (.int .i64 (((bts s).countP (· == c.toNat) : Nat) : Int)) ∧ w = w' := by
  refine (Tryd.strings_Count_one s c w).mono ?_
  rintro e w' ⟨rfl, rfl⟩
  rw [mp_count]
  exact ⟨rfl, rfl⟩
theorem strPrefix_c (s : ByteArray) (c : UInt8) (w : World) : Calls Tryd.prog 37 #[.string s, .string ⟨#[c]⟩] w fun e w' =>
    e = .returned (.bool (decide ((bts s).head? = some c.toNat))) ∧ w = w' := by
  refine (Tryd.strings_HasPrefix s ⟨#[c]⟩ w).mono ?_
  rintro e w' ⟨rfl, rfl⟩
  show Ending.returned (.bool (Lib.hasPrefix s.data.toList [c])) = _ ∧ _
  rw [prefix_one]
  exact ⟨rfl, rfl⟩
theorem strSuffix_c (s : ByteArray) (c : UInt8) (w : World) (hs : s.size < 4294967281) : Calls Tryd.prog 57 #[.string s, .string ⟨#[c]⟩] w fun e w' =>
    e = .returned (.bool (decide ((bts s).getLast? = some c.toNat))) ∧ w = w' := by
  refine (Tryd.strings_HasSuffix s ⟨#[c]⟩ w (by omega)).mono ?_
  rintro e w' ⟨rfl, rfl⟩
  show Ending.returned (.bool (Lib.hasSuffix s.data.toList [c])) = _ ∧ _
  rw [suffix_one]
  exact ⟨rfl, rfl⟩
theorem trimPrefix_c (s : ByteArray) (c : UInt8) (w : World) : Calls Tryd.prog 52 #[.string s, .string ⟨#[c]⟩] w fun e w' =>
    e = .returned (.string (stz ((bts s).drop (if (bts s).head? = some c.toNat then 1 else 0)))) ∧ w = w' := by
  refine (Tryd.strings_TrimPrefix s ⟨#[c]⟩ w).mono ?_
  rintro e w' ⟨rfl, rfl⟩
  rw [stz_map]
  show Ending.returned (.string (stz ((Lib.trimPrefix s.data.toList [c]).map UInt8.toNat))) = _ ∧ _
  rw [trimP_one]
  exact ⟨rfl, rfl⟩
theorem trimLeft1_c (s : ByteArray) (c : UInt8) (hc : c.toNat < 128) (w : World) : Calls Tryd.prog 41 #[.string s, .string ⟨#[c]⟩] w fun e w' =>
    e = .returned (.string (stz ((bts s).dropWhile (· == c.toNat)))) ∧ w = w' := by
  refine (Tryd.strings_TrimLeft_one s c hc w).mono ?_
  rintro e w' ⟨rfl, rfl⟩
  rw [stz_map, trimL_one]
  exact ⟨rfl, rfl⟩
theorem trimRight1_c (s : ByteArray) (c : UInt8) (hc : c.toNat < 128) (w : World) (hs : s.size < 4294967281) : Calls Tryd.prog 42 #[.string s, .string ⟨#[c]⟩] w fun e w' =>
    e = .returned (.string (stz ((bts s).reverse.dropWhile (· == c.toNat)).reverse)) ∧ w = w' := by
  refine (Tryd.strings_TrimRight_one s c hc w (by omega)).mono ?_
  rintro e w' ⟨rfl, rfl⟩
  rw [stz_map, trimR_one]
  exact ⟨rfl, rfl⟩
theorem has_index (L : List UInt8) (c : UInt8) : decide (0 ≤ Lib.indexByte L c) = L.any (· == c) := by
  induction L with
  | nil => rfl
  | cons b l ih =>
    rw [List.any_cons, ← ih, Lib.indexByte]
    have hge := Lib.indexByte_ge l c
    cases h : (b == c)
    · simp only [Bool.false_eq_true, if_false]
      rw [Bool.false_or]
      split
      · rename_i h2
        rw [beq_iff_eq] at h2
        rw [h2]
      · rename_i h2
        have h2 : ¬ Lib.indexByte l c = -1 := by simpa using h2
        rw [decide_eq_true (by omega), decide_eq_true (by omega)]
    · rw [if_pos rfl, Bool.true_or]; rfl
theorem contains1_c (s : ByteArray) (c : UInt8) (w : World) : Calls Tryd.prog 55 #[.string s, .string ⟨#[c]⟩] w fun e w' =>
    e = .returned (.bool ((bts s).any (· == c.toNat))) ∧ w = w' := by
  refine (Tryd.strings_Contains_one s c w).mono ?_
  rintro e w' ⟨rfl, rfl⟩
  rw [has_index, ← mp_any]
  exact ⟨rfl, rfl⟩
theorem contains2_c (s : ByteArray) (w : World) (hM : Mw w) (hs : s.size < 4294967281) : Calls Tryd.prog 55 #[.string s, .string ⟨#[44, 44]⟩] w fun e w' =>
    e = .returned (.bool (dblC (bts s))) ∧ w = w' := by
  obtain ⟨m, hm, _⟩ := hM
  refine (Tryd.strings_Contains s ⟨#[44, 44]⟩ m w hs hm).mono ?_
  rintro e w' ⟨rfl, rfl⟩
  show Ending.returned (.bool (Lib.contains s.data.toList [44, 44])) = _ ∧ _
  rw [contains_two]
  exact ⟨rfl, rfl⟩
theorem lastIndex_c (s : ByteArray) (w : World) (hs : s.size < 4294967281) : Calls Tryd.prog 62 #[.string s, .string ⟨#[44]⟩] w fun e w' =>
    e = .returned (.int .i64 (Lib.lastIndexByte s ((44 : Nat) : Int))) ∧ w = w' := by
  refine (Tryd.strings_LastIndex_one s ⟨#[44]⟩ rfl (by omega) w).mono ?_
  rintro e w' ⟨rfl, rfl⟩
  exact ⟨rfl, rfl⟩
theorem repeat_c (c : UInt8) (n : Nat) (w : World) (hn : n ≤ 140737488355328) : Calls Tryd.prog 48 #[.string ⟨#[c]⟩, .int .i64 (n : Int)] w fun e w' =>
    e = .returned (.string (stz (List.replicate n c.toNat))) ∧ Below w.heap.size w w' := by
  refine (Tryd.strings_Repeat ⟨#[c]⟩ n w (by omega) (by show 1 * n ≤ _; omega)).mono ?_
  rintro e w' ⟨rfl, hw⟩
  rw [stz_map]
  show Ending.returned (.string (stz ((Lib.repeatL [c] n).map UInt8.toNat))) = _ ∧ _
  rw [repeat_one]
  exact ⟨rfl, hw⟩
theorem strClone_c (s : ByteArray) (w : World) (hs : s.size < 4294967281) : Calls Tryd.prog 49 #[.string s] w fun e w' =>
    e = .returned (.string s) ∧ Below w.heap.size w w' := Tryd.stringslite_Clone s w (by omega)
end Go.Proofs.YtogipbgfnjbakaaDoor
