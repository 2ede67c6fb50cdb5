import Derived.Test.YtmfcjjjkndfojaaRefD
namespace Go.Proofs.Ytmfcjjjkndfojaa
open Go.RowKit
set_option maxHeartbeats 800000 in
set_option maxRecDepth 100000 in
theorem minus_c (s t : ByteArray) (ds es : List Nat) (w : World) (h : IsD s ds) (h' : IsD t es) (hs : s.size ≤ 100000000) (hle : es.length ≤ ds.length) (hv : dval es ≤ dval ds) :
    Calls Try.prog 25 #[.string s, .string t] w fun e w' => ∃ s', e = .returned (.string s') ∧ IsD s' (decs (dval ds - dval es)) ∧ Below w.heap.size w w' := by
  have hl := Lib.hid h.size
  have hl' := Lib.hid h'.size
  have ht : t.size ≤ 100000000 := by rw [hl'.out]; have := hl.out; omega
  have H := Lib.hid h
  have H' := Lib.hid h'
  have HLE := Lib.hid hle
  have HVV := Lib.hid hv
  clear h h' hle hv
  generalize hg : w.heap.size = g at *
  have Hg := Lib.hid hg
  clear hg
  go_enter Try.func25, Try.ntmps25
  go_wp2
  go_loopw [5, 6, 7, 8] (fun v bw i _ wr => ∃ (k br : Nat) (os : List Nat), i = .int .i64 (k : Int) ∧ bw = .int .i64 (br : Int) ∧ k ≤ s.size ∧ br ≤ 1 ∧
      wr.ownsRow g 5 1 v k (u8s (asc os)) ∧ os.length = k ∧ (∀ d ∈ os, d < 10) ∧ val 10 os + val 10 (es.reverse.take k) = val 10 (ds.reverse.take k) + 10 ^ k * br ∧ Below g w wr) (fun _ _ i _ _ => s.size - (intOf i).toNat)
  case atStart => exact ⟨0, 0, [], rfl, rfl, by omega, by omega, World.ownsRow_nil _ _ _ _, rfl, by simp, rfl, Below.refl _ _⟩
  case round =>
    obtain ⟨k, br, os, rfl, rfl, hk, hbr, hown0, hlen0, hd0, hv0, hb0⟩ := hrel
    have HO := Lib.hid hown0
    have HLEN := Lib.hid hlen0
    have HD := Lib.hid hd0
    have HV := Lib.hid hv0
    have HB := Lib.hid hb0
    have hsz : g ≤ wr.heap.size := by have := hb0.size; have e := Hg.out; omega
    clear hown0 hlen0 hd0 hv0 hb0
    have hX := rev_getD_lt ds H.out.2 k
    have hY := rev_getD_lt es H'.out.2 k
    have hv1 := Lib.hid (val_take_succ 10 ds.reverse k)
    have hv2 := Lib.hid (val_take_succ 10 es.reverse k)
    have C1 := fun W => digit_c s ds W (k : Int) (by omega) (by omega) H.out (by omega)
    have C2 := fun W => digit_c t es W (k : Int) (by omega) (by omega) H'.out (by omega)
    simp only [Int.toNat_natCast] at C1 C2
    generalize ds.reverse.getD k 0 = X at C1 hX hv1
    generalize es.reverse.getD k 0 = Y at C2 hY hv2
    have HC1 := Lib.hid C1
    have HC2 := Lib.hid C2
    clear C1 C2
    by_cases hlt : k < s.size
    · by_cases hneg : (X : Int) - (Y : Int) - (br : Int) < 0
      · go_wp2_with fail
        refine (HC1.out _).mono ?_
        rintro e w' ⟨rfl, rfl⟩
        go_wp2_with fail
        refine (HC2.out _).mono ?_
        rintro e w' ⟨rfl, rfl⟩
        go_wp2_with (at_builtin; go_must (refine wpList_app_u8 rfl (.tmp 28) (.tmp 32) _ rfl Try.underlying46 g u5 k _ rfl HO.out _ rfl (48 + (X + 10 - Y - br)) (by omega) (by omega) HB.out hsz ?_))
        intro v' w' ho1 hb1
        go_wp2
        go_roundw
        case rel =>
          refine ⟨k + 1, 1, os ++ [X + 10 - Y - br], by go_num, rfl, by omega, by omega, ?_, by simp [HLEN.out], ?_, ?_, hb1.out⟩
          · rw [asc_append]; exact ho1.out
          · intro d hd
            rcases List.mem_append.1 hd with hd | hd
            · exact HD.out d hd
            · rw [List.mem_singleton.1 hd]; omega
          · rw [val_snoc, HLEN.out, hv1.out, hv2.out, Nat.pow_succ]
            exact sub_step 10 (10 ^ k) _ _ _ X Y br _ 1 HV.out (by omega)
        case measure => simp [intOf]; omega
      · go_wp2_with fail
        refine (HC1.out _).mono ?_
        rintro e w' ⟨rfl, rfl⟩
        go_wp2_with fail
        refine (HC2.out _).mono ?_
        rintro e w' ⟨rfl, rfl⟩
        go_wp2_with (at_builtin; go_must (refine wpList_app_u8 rfl (.tmp 28) (.tmp 32) _ rfl Try.underlying46 g u5 k _ rfl HO.out _ rfl (48 + (X - Y - br)) (by omega) (by omega) HB.out hsz ?_))
        intro v' w' ho1 hb1
        go_wp2
        go_roundw
        case rel =>
          refine ⟨k + 1, 0, os ++ [X - Y - br], by go_num, rfl, by omega, by omega, ?_, by simp [HLEN.out], ?_, ?_, hb1.out⟩
          · rw [asc_append]; exact ho1.out
          · intro d hd
            rcases List.mem_append.1 hd with hd | hd
            · exact HD.out d hd
            · rw [List.mem_singleton.1 hd]; omega
          · rw [val_snoc, HLEN.out, hv1.out, hv2.out, Nat.pow_succ]
            exact sub_step 10 (10 ^ k) _ _ _ X Y br _ 0 HV.out (by omega)
        case measure => simp [intOf]; omega
    · obtain rfl : k = s.size := by omega
      go_wp2_with fail
      obtain ⟨A, c, hA⟩ := own_form HO.out
      subst hA
      refine (turned_c A s.size c (asc os) wr (Bytes.of_own HO.out (by omega) (asc_lt os HD.out))).mono ?_
      rintro e w1 ⟨s1, rfl, hs1, hb1⟩
      have HS1 := Lib.hid (isD_of_asc hs1 HD.out)
      have HB1 := Lib.hid hb1
      have hs1z : s1.size ≤ 1000000000 := by rw [HS1.out.size, List.length_reverse, HLEN.out]; omega
      clear hs1 hb1
      go_wp2_with fail
      refine (strip_c s1 os.reverse w1 HS1.out hs1z).mono ?_
      rintro e w2 ⟨s2, rfl, hs2, rfl⟩
      have HS2 := Lib.hid hs2
      clear hs2
      go_wp2
      go_ret
      refine ⟨s2, rfl, ?_, HB.out.trans (HB1.out.mono hsz)⟩
      have e1 := HV.out
      have e0 := HLE.out
      rw [List.take_of_length_le (by simp; have := hl.out; omega), List.take_of_length_le (by simp; have := hl.out; omega)] at e1
      have e2 := val_lt 10 os HD.out
      rw [HLEN.out] at e2
      have e3 : dval os.reverse = dval ds - dval es := by
        rw [dval, List.reverse_reverse]
        exact sub_last _ _ _ _ _ e1 e2 HVV.out hbr
      rw [← e3]; exact HS2.out
end Go.Proofs.Ytmfcjjjkndfojaa
