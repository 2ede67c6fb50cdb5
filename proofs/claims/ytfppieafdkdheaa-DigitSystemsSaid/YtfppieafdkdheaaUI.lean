/-
  UI: the document's Zero, Put, Digits; answers.
-/
import Derived.Test.YtfppieafdkdheaaUH
set_option maxRecDepth 100000
namespace Go.Proofs.Ytfppieafdkdheaa
open Go.RowKit
set_option maxHeartbeats 400000 in
theorem refZero_c (z : Int) (w : World) (h : -2147483648 ≤ z ∧ z ≤ 2147483647) : Calls Try.prog 8 #[.int .i32 z] w fun e w' => e = .returned (.bool (sysZ z)) ∧ w = w' := by
  by_cases hz : 1114102 < z
  · have HS := Lib.hid (show sysZ z = false by rw [sysZ]; exact decide_eq_false (by omega))
    go_enter Try.func8, Try.ntmps8
    go_wp2
    go_loopw [3] (fun i wr => i = .int .i32 0 ∧ wr = w) (fun _ _ => 0)
    case atStart => exact ⟨rfl, rfl⟩
    case round =>
      obtain ⟨rfl, rfl⟩ := hrel
      go_wp2
      go_ret
      rw [HS.out]
      exact ⟨rfl, rfl⟩
  go_enter Try.func8, Try.ntmps8
  go_wp2
  go_loopw [3] (fun i wr => ∃ k : Nat, k ≤ 10 ∧ i = .int .i32 (k : Int) ∧ wr = w ∧ ∀ j : Nat, j < k → isZ (z + (j : Int)) = true) (fun i _ => 10 - (intOf i).toNat)
  case atStart => exact ⟨0, by omega, rfl, rfl, fun j hj => absurd hj (by omega)⟩
  case round =>
    obtain ⟨k, hk, rfl, rfl, ha0⟩ := hrel
    by_cases hlt : k < 10
    · have hw : IntKind.i32.wrap (z + (k : Int)) = z + (k : Int) := IntWalk.i32_in _ (by omega)
      have hw2 : IntKind.i32.wrap ((k : Int) + 1) = ((k + 1 : Nat) : Int) := by rw [IntWalk.i32_in _ (by omega)]; rfl
      have HA := Lib.hid ha0
      clear ha0
      go_wp2_with fail
      refine (refScalar_c (z + (k : Int)) _).mono ?_
      rintro e w' ⟨rfl, rfl⟩
      rcases hzk : isZ (z + (k : Int)) with _ | _
      · have HN := Lib.hid (sysZ_no hlt hzk)
        clear hzk
        go_wp2
        go_ret
        rw [HN.out]
        exact ⟨rfl, rfl⟩
      · have HY := Lib.hid hzk
        clear hzk
        go_wp2
        go_roundw
        case rel =>
          refine ⟨k + 1, by omega, by go_num, trivial, fun j hj => ?_⟩
          rcases Nat.lt_or_ge j k with hjk | hjk
          · exact HA.out j hjk
          · obtain rfl : j = k := by omega
            exact HY.out
        case measure => simp [intOf]; omega
    · have HS := Lib.hid (sysZ_all (z := z) fun j hj => ha0 j (by omega))
      clear ha0
      obtain rfl : k = 10 := by omega
      go_wp2
      go_ret
      rw [HS.out]
      exact ⟨rfl, rfl⟩
theorem bts_at (s : ByteArray) (k : Nat) (h : k < s.size) : (bts s).take (k + 1) = (bts s).take k ++ [s[k].toNat] := by
  have h' : k < (bts s).length := by rw [bts_length]; exact h
  rw [List.take_succ_eq_append_getElem h']
  congr 2
  have := bts_get s k h
  rwa [List.getD, List.getElem?_eq_getElem h', Option.getD_some] at this
theorem okL_at {s : ByteArray} (h : okL (bts s) = true) (k : Nat) (hk : k < s.size) : 48 ≤ s[k].toNat ∧ s[k].toNat < 58 := by
  have h' : k < (bts s).length := by rw [bts_length]; exact hk
  have h1 := inS_iff.1 (List.all_eq_true.1 h _ (List.getElem_mem h'))
  have h2 := bts_get s k hk
  rw [List.getD, List.getElem?_eq_getElem h', Option.getD_some] at h2
  omega
theorem okL_bad {s : ByteArray} (k : Nat) (hk : k < s.size) (h : s[k].toNat < 48 ∨ 57 < s[k].toNat) : okL (bts s) = false := by
  rcases ho : okL (bts s) with _ | _
  · rfl
  · have := okL_at ho k hk
    omega
/-- Only digits, and some? -/
def digD (s : ByteArray) : Bool := decide (0 < s.size) && okL (bts s)
theorem digD_true {s : ByteArray} (h : digD s = true) : 0 < s.size ∧ okL (bts s) = true := by simpa [digD] using h
set_option maxHeartbeats 400000 in
theorem refDigits_d (s : ByteArray) (w : World) (hs : s.size ≤ maxLen) :
    Calls Try.prog 13 #[.string s] w fun r w' => r = .returned (.bool (digD s)) ∧ w = w' := by
  unfold maxLen at hs
  go_enter Try.func13, Try.ntmps13
  go_wp2
  go_loop [3] (fun i => ∃ k : Nat, k ≤ s.size ∧ i = .int .i64 (k : Int) ∧ okL ((bts s).take k) = true) (fun i => s.size - (intOf i).toNat)
  case atStart => exact ⟨0, Nat.zero_le _, rfl, rfl⟩
  case round =>
    obtain ⟨k, hk, rfl, hok⟩ := hrel
    have HOK := Lib.hid hok
    clear hok
    by_cases hlt : k < s.size
    · have hsucc := Lib.hid (bts_at s k hlt)
      by_cases h1 : s[k].toNat < 48
      · have HN := Lib.hid (okL_bad k hlt (.inl h1))
        have h2 : ((s[k].toNat : Nat) : Int) < 48 := by omega
        clear h1
        go_wp2
        go_ret
        exact ⟨ret_bool (by rw [digD, HN.out, Bool.and_false]), rfl⟩
      · by_cases h1' : 57 < s[k].toNat
        · have HN := Lib.hid (okL_bad k hlt (.inr h1'))
          have h2 : ¬ ((s[k].toNat : Nat) : Int) < 48 := by omega
          have h3 : (57 : Int) < ((s[k].toNat : Nat) : Int) := by omega
          clear h1 h1'
          go_wp2
          go_ret
          exact ⟨ret_bool (by rw [digD, HN.out, Bool.and_false]), rfl⟩
        · have HDB := Lib.hid (show inS 48 s[k].toNat = true from inS_iff.2 (by omega))
          have h2 : ¬ ((s[k].toNat : Nat) : Int) < 48 := by omega
          have h3 : ¬ (57 : Int) < ((s[k].toNat : Nat) : Int) := by omega
          clear h1 h1'
          go_wp2
          go_round
          case rel => exact ⟨k + 1, by omega, by go_num, by rw [hsucc.out, okL_append]; exact ⟨HOK.out, by rw [okL, List.all_cons, HDB.out]; rfl⟩⟩
          case measure => simp [intOf]; omega
    · obtain rfl : k = s.size := by omega
      have HE2 := Lib.hid (show (!s.toList.isEmpty) = digD s by
        have h := HOK.out
        rw [List.take_of_length_le (by rw [bts_length]; exact Nat.le_refl _)] at h
        rw [digD, h, Bool.and_true, isEmpty_bts, ← decide_not]
        exact decide_eq_decide.2 (by omega))
      go_wp2
      go_ret
      exact ⟨ret_bool HE2.out, rfl⟩
set_option maxHeartbeats 1000000 in
theorem refPut_c (Z : Nat) (s : ByteArray) (w : World) (hZ : sysZ (Z : Int) = true) (hs : s.size ≤ 100000000) (hk : okL (bts s) = true) : Calls Try.prog 15 #[.int .i32 (Z : Int), .string s] w fun e w' =>
    e = .returned (.string (putS Z (bts s))) ∧ Below w.heap.size w w' := by
  have HZ := Lib.hid hZ
  have HK := Lib.hid hk
  have hzr := (sysZ_iff.1 hZ)
  clear hZ hk
  generalize hg : w.heap.size = g at *
  have Hg := Lib.hid hg
  clear hg
  have B0 := Lib.hid (show Below g w w by rw [← Hg.out]; exact Below.refl _ _)
  go_enter Try.func15, Try.ntmps15
  go_wp2
  go_loopw [5, 6] (fun v iv wr => ∃ k : Nat, k ≤ s.size ∧ iv = .int .i64 (k : Int) ∧ wr.ownsRow g 21 1 v k (i32s (ints (hi Z ((bts s).take k)))) ∧ Below g w wr) (fun _ iv _ => s.size - (intOf iv).toNat)
  case atStart => exact ⟨0, Nat.zero_le _, rfl, World.ownsRow_nil _ _ _ _, B0.out⟩
  case round =>
    obtain ⟨k, hk, rfl, ho0, hb0⟩ := hrel
    have HO := Lib.hid ho0
    have HB := Lib.hid hb0
    have hgs : g ≤ wr.heap.size := by have := hb0.size; have := Hg.out; omega
    clear ho0 hb0
    by_cases hlt : k < s.size
    · have hr := okL_at HK.out k hlt
      have HT := Lib.hid (bts_at s k hlt)
      generalize hb : s[k].toNat = b at *
      have k0 : IntKind.u8.wrap ((b : Int) - 48) = (b : Int) - 48 := IntWalk.u8_in _ (by omega)
      have k1 : IntKind.i32.wrap ((b : Int) - 48) = (b : Int) - 48 := IntWalk.i32_in _ (by omega)
      have k2 : IntKind.i32.wrap ((Z : Int) + ((b : Int) - 48)) = (Z : Int) + ((b : Int) - 48) := IntWalk.i32_in _ (by omega)
      go_wp2_with (at_builtin; go_must (refine wpList_app_i32 rfl (.tmp 13) (.tmp 21) _ rfl Try.underlying37 g u5 k _ rfl HO.out _ rfl ((Z + (b - 48) : Nat) : Int) (by omega) (by omega) HB.out hgs ?_))
      intro v' w' ho1 hb1 hk1
      go_wp2
      go_roundw
      case rel =>
        refine ⟨k + 1, by omega, by go_num, ?_, hb1.out⟩
        rw [HT.out, hi_append, ints_append]; exact ho1.out
      case measure => simp [intOf]; omega
    · obtain rfl : k = s.size := by omega
      have hal := hi_allC HZ.out HK.out
      obtain ⟨A, c, hA⟩ := own_form HO.out
      subst hA
      have ho := HO.out
      rw [List.take_of_length_le (by rw [bts_length]; exact Nat.le_refl _)] at ho
      have hR : OwnR wr g A s.size c (ints (hi Z (bts s))) := ⟨ho, by omega, fun z hz => by have := ints_range hal z hz; omega⟩
      have HC := Lib.hid (refText_c A s.size c (ints (hi Z (bts s))) wr hR.rns (by omega) (all_ints hal))
      rw [nats_ints, ← putS_ok HK.out] at HC
      clear hal ho hR
      go_wp2_with fail
      refine HC.out.mono ?_
      rintro e w1 ⟨rfl, hb⟩
      go_wp2
      go_ret
      exact ⟨rfl, HB.out.trans (hb.mono hgs)⟩
set_option maxHeartbeats 1000000 in
theorem answers12_c (w : World) : Calls Try.prog 9 #[] w fun e w' => e = .returned (.bool true) ∧ Below w.heap.size w w' := by
  have C1 := Lib.hid (digitPut_c 1632 ⟨#[49, 50]⟩ w (by decide) (by decide))
  have C2 := Lib.hid (fun W => digitGet_c 1632 ⟨#[217, 161, 217, 162]⟩ W (by decide) (by decide))
  have C3 := Lib.hid (fun W => digitRun_c 1632 (⟨#[217, 161, 217, 162]⟩ ++ ⟨#[120]⟩) W (by decide) (by decide))
  have C4 := Lib.hid (fun W => digitGood_c 48 W (by decide))
  have C5 := Lib.hid (fun W => digitIs_c 48 57 W (by decide) (by decide))
  have C6 := Lib.hid (fun W => digitIs_c 48 58 W (by decide) (by decide))
  rw [show putS 1632 (bts ⟨#[49, 50]⟩) = ⟨#[217, 161, 217, 162]⟩ by decide +kernel] at C1
  rw [show getS 1632 (bts ⟨#[217, 161, 217, 162]⟩) = ⟨#[49, 50]⟩ by decide +kernel, show getB 1632 (bts ⟨#[217, 161, 217, 162]⟩) = true by decide +kernel] at C2
  rw [show runN 1632 (bts (⟨#[217, 161, 217, 162]⟩ ++ ⟨#[120]⟩)) = 4 by decide +kernel] at C3
  rw [show sysZ 48 = true by decide] at C4
  rw [show isB 48 57 = true by decide] at C5
  rw [show isB 48 58 = false by decide] at C6
  go_enter Try.func9, Try.ntmps9
  go_wp2_with fail
  refine C1.out.mono ?_
  rintro e w1 ⟨rfl, hb1⟩
  have B1 := Lib.hid hb1
  clear hb1
  go_wp2_with fail
  refine (C2.out _).mono ?_
  rintro e w2 ⟨rfl, hb2⟩
  have B2 := Lib.hid (B1.out.trans (hb2.mono B1.out.size))
  clear hb2
  go_wp2_with fail
  refine (C3.out _).mono ?_
  rintro e w3 ⟨rfl, hb3⟩
  have B3 := Lib.hid (B2.out.trans (hb3.mono B2.out.size))
  clear hb3
  go_wp2_with fail
  refine (C4.out _).mono ?_
  rintro e w4 ⟨rfl, rfl⟩
  go_wp2_with fail
  refine (C5.out _).mono ?_
  rintro e w5 ⟨rfl, rfl⟩
  go_wp2_with fail
  refine (C6.out _).mono ?_
  rintro e w6 ⟨rfl, rfl⟩
  go_wp2
  go_ret
  exact ⟨rfl, B3.out⟩
end Go.Proofs.Ytfppieafdkdheaa
