/-
  TenNumbers: the walk.
-/
import Derived.Test.YtpbkndmciopnjaaDoorTenAns
import Derived.Test.YtpbkndmciopnjaaDoorRefF
import Derived.Test.YtpbkndmciopnjaaDoorRefG
namespace Go.Proofs.YtpbkndmciopnjaaDoor
open Go.RowKit
/-- Are the first k bytes digits? -/
def okB (s : ByteArray) (k : Nat) : Bool := (s.data.toList.take k).all digB
theorem okB_succ (s : ByteArray) (k : Nat) (h : k < s.size) : okB s (k + 1) = (okB s k && digB s[k]) := by
  have h' : k < s.data.toList.length := by simpa using h
  unfold okB
  rw [List.take_succ_eq_append_getElem h', List.all_append]
  simp
  rfl
theorem okB_all {s : ByteArray} (h : okB s s.size = true) : ∀ j (h : j < s.size), digB s[j] = true := by
  intro j hj
  unfold okB at h
  rw [List.take_of_length_le (by simp)] at h
  exact List.all_eq_true.1 h _ (List.getElem_mem (l := s.data.toList) (by simpa using hj))
theorem okB_not {s : ByteArray} (h : okB s s.size = false) : ∃ j, ∃ h : j < s.size, digB s[j] = false := by
  unfold okB at h
  rw [List.take_of_length_le (by simp)] at h
  obtain ⟨b, hb, hf⟩ := List.all_eq_false.1 h
  obtain ⟨j, hj, rfl⟩ := List.mem_iff_getElem.1 hb
  exact ⟨j, by simpa using hj, by simp only [Bool.not_eq_true] at hf; exact hf⟩
theorem isD_bdigs {s : ByteArray} (h : ∀ j (h : j < s.size), digB s[j] = true) : IsD s (bdigs s) := by
  refine ⟨?_, bdigs_lt h⟩
  apply List.ext_getElem
  · simp [bdigs]
  · intro j h1 h2
    have hj : j < s.size := by simpa using h1
    have := digB_true (h j hj)
    simp only [bdigs, List.getElem_map, List.map_map, Function.comp]
    change (s[j]).toNat = 48 + ((s[j]).toNat - 48)
    omega
set_option maxHeartbeats 2000000 in
set_option maxRecDepth 100000 in
theorem walk_tenNumbers (s : ByteArray) (w : World) (hs : s.size ≤ maxLen) (hP : Pw w) :
    Calls Tryd.prog 4 #[.string s] w fun e w' => e = .returned (.bool true) ∧ Below w.heap.size w w' := by
  have P := Lib.hid hP
  have B := Lib.hid (Below.refl w.heap.size w)
  unfold maxLen at hs
  clear hP
  by_cases hbig : 300 < s.size
  · go_enter Tryd.func4, Tryd.ntmps4
    go_wp2_with fail
    refine (answers04_c _ P.out).mono ?_
    rintro e w1 ⟨rfl, hb⟩
    replace B := Lib.hid (B.out.trans (hb.mono B.out.size))
    clear hb
    go_wp2
    go_ret
    exact ⟨rfl, B.out⟩
  · have hs3 : s.size ≤ 300 := by omega
    clear hs hbig
    by_cases h0 : s.size = 0
    · obtain rfl : s = ⟨#[]⟩ := IsD.ext (ds := []) ⟨by simp [List.eq_nil_of_length_eq_zero (show s.data.toList.length = 0 by simpa using h0)], by simp⟩ IsD.nil
      clear h0 hs3
      go_enter Tryd.func4, Tryd.ntmps4
      go_wp2
      go_loop [3, 4] (fun o i => o = .bool false ∧ i = .int .i64 0) (fun _ _ => 0)
      case atStart => exact ⟨rfl, rfl⟩
      case round =>
        obtain ⟨rfl, rfl⟩ := hrel
        go_wp2_with fail
        refine (tenNumber_empty _ P.out).mono ?_
        rintro e w1 ⟨rfl, hb⟩
        replace P := Lib.hid (P.out.below hb)
        replace B := Lib.hid (B.out.trans (hb.mono B.out.size))
        clear hb
        go_wp2_with fail
        refine (answers04_c _ P.out).mono ?_
        rintro e w2 ⟨rfl, hb⟩
        replace B := Lib.hid (B.out.trans (hb.mono B.out.size))
        clear hb
        go_wp2
        go_ret
        exact ⟨rfl, B.out⟩
    · have hpos : 0 < s.size := by omega
      have hne : s.toList.isEmpty = false := by
        cases hh : s.toList with
        | nil =>
          rw [ByteArray.toList_eq] at hh
          have h2 : s.data.toList.length = 0 := by rw [hh]; rfl
          have h3 : s.size = s.data.toList.length := rfl
          omega
        | cons => rfl
      have hb1 : (!s.toList.isEmpty) = true := by rw [hne]; rfl
      clear h0
      go_enter Tryd.func4, Tryd.ntmps4
      go_wp2
      go_loop [3, 4] (fun o i => ∃ k : Nat, k ≤ s.size ∧ i = .int .i64 (k : Int) ∧ o = .bool (okB s k)) (fun _ i => s.size - (intOf i).toNat)
      case atStart => exact ⟨0, Nat.zero_le _, rfl, rfl⟩
      case round =>
        obtain ⟨k, hk, rfl, rfl⟩ := hrel
        by_cases hlt : k < s.size
        · have hsucc := Lib.hid (okB_succ s k hlt)
          rcases hob : okB s k with _ | _
          · have HOB := Lib.hid hob
            clear hob
            go_wp2
            go_round
            case rel => exact ⟨k + 1, by omega, by go_num, by rw [hsucc.out, HOB.out]; rfl⟩
            case measure => simp [intOf]; omega
          · have HOB := Lib.hid hob
            clear hob
            rcases hdb : digB s[k] with _ | _
            · have HDB := Lib.hid hdb
              rcases digB_false hdb with h1 | h1
              · have h2 : ¬ (48 : Int) ≤ ((s[k].toNat : Nat) : Int) := by omega
                clear hdb
                go_wp2
                go_round
                case rel => exact ⟨k + 1, by omega, by go_num, by rw [hsucc.out, HOB.out, HDB.out]; rfl⟩
                case measure => simp [intOf]; omega
              · have h2 : (48 : Int) ≤ ((s[k].toNat : Nat) : Int) := by omega
                have h3 : ¬ ((s[k].toNat : Nat) : Int) ≤ 57 := by omega
                clear hdb
                go_wp2
                go_round
                case rel => exact ⟨k + 1, by omega, by go_num, by rw [hsucc.out, HOB.out, HDB.out]; rfl⟩
                case measure => simp [intOf]; omega
            · have HDB := Lib.hid hdb
              have h1 := digB_true hdb
              have h2 : (48 : Int) ≤ ((s[k].toNat : Nat) : Int) := by omega
              have h3 : ((s[k].toNat : Nat) : Int) ≤ 57 := by omega
              clear hdb
              go_wp2
              go_round
              case rel => exact ⟨k + 1, by omega, by go_num, by rw [hsucc.out, HOB.out, HDB.out]; rfl⟩
              case measure => simp [intOf]; omega
        · obtain rfl : k = s.size := by omega
          rcases hob : okB s s.size with _ | _
          · have HOB := Lib.hid (okB_not hob)
            clear hob
            go_wp2_with fail
            refine (tenNumber_c s _ (by omega) P.out).mono ?_
            rintro e w1 ⟨hb, ⟨_, hall, _⟩ | ⟨_, rfl⟩⟩
            · exfalso
              obtain ⟨j, hj, hf⟩ := HOB.out
              rw [hall j hj] at hf
              cases hf
            · replace P := Lib.hid (P.out.below hb)
              replace B := Lib.hid (B.out.trans (hb.mono B.out.size))
              clear hb
              go_wp2_with fail
              refine (answers04_c _ P.out).mono ?_
              rintro e w2 ⟨rfl, hb⟩
              replace B := Lib.hid (B.out.trans (hb.mono B.out.size))
              clear hb
              go_wp2
              go_ret
              exact ⟨rfl, B.out⟩
          · have HI := Lib.hid (isD_bdigs (okB_all hob))
            clear hob
            go_wp2_with fail
            refine (tenNumber_ok s _ _ HI.out (by omega) hpos P.out).mono ?_
            rintro e w1 ⟨A1, m1, c1, rfl, ho, hb⟩
            have O1 := Lib.hid ho.limbs
            have hm1 : m1 ≤ 300 := by
              rw [← ho.len]
              refine Nat.le_trans (digs_len9 (dval_lt (bdigs s) HI.out.2)) ?_
              rw [bdigs_length]
              exact hs3
            replace P := Lib.hid (P.out.below hb)
            replace B := Lib.hid (B.out.trans (hb.mono B.out.size))
            clear ho hb
            go_wp2_with fail
            refine (answers04_c _ P.out).mono ?_
            rintro e w2 ⟨rfl, hb⟩
            replace O1 := Lib.hid (O1.out.below hb)
            replace P := Lib.hid (P.out.below hb)
            replace B := Lib.hid (B.out.trans (hb.mono B.out.size))
            clear hb
            go_wp2_with fail
            refine (number_c s _ _ HI.out (by omega)).mono ?_
            rintro e w3 ⟨A2, m2, c2, rfl, ho, hb⟩
            have O2 := Lib.hid ho.limbs
            replace O1 := Lib.hid (O1.out.below hb)
            replace P := Lib.hid (P.out.below hb)
            replace B := Lib.hid (B.out.trans (hb.mono B.out.size))
            clear ho hb
            go_wp2_with fail
            refine (same_c A1 A2 m1 c1 m2 c2 _ _ _ O1.out O2.out).mono ?_
            rw [decide_eq_true rfl]
            rintro e w4 ⟨rfl, hb⟩
            replace O1 := Lib.hid (O1.out.below hb)
            replace P := Lib.hid (P.out.below hb)
            replace B := Lib.hid (B.out.trans (hb.mono B.out.size))
            clear hb O2
            have CD := tenDigits_c A1 m1 c1 _ _ O1.out (digs_lt 1000000000 (by omega) _) (by omega) P.out
            rw [val_digs 1000000000 (by omega)] at CD
            have HCD := Lib.hid CD
            clear CD
            go_wp2_with fail
            refine HCD.out.mono ?_
            rintro e w5 ⟨s5, rfl, hs5, hb⟩
            have S5 := Lib.hid hs5
            replace B := Lib.hid (B.out.trans (hb.mono B.out.size))
            clear hb hs5 HCD
            go_wp2_with fail
            refine (strip_c s _ _ HI.out (by omega)).mono ?_
            rintro e W ⟨s6, rfl, hs6, rfl⟩
            have S6 := Lib.hid hs6
            clear hs6
            go_wp2_with fail
            refine (zero04_c s6 _ _ S6.out).mono ?_
            rintro e W ⟨s7, rfl, hs7, rfl⟩
            obtain rfl : s5 = s7 := IsD.ext S5.out hs7
            clear hs7
            go_wp2
            go_ret
            exact ⟨rfl, B.out⟩
end Go.Proofs.YtpbkndmciopnjaaDoor
