/-
  GB: group.Split, Join; the document's Groups, Ends; answers.
-/
import Derived.Test.YtiflkkmeloclfaaGA
set_option maxRecDepth 100000
namespace Go.Proofs.Ytiflkkmeloclfaa
open Go.RowKit
theorem rest_c (n z : Nat) (w : World) (hn : 1 ≤ n ∧ n ≤ 1000) (hz : 1 ≤ z ∧ z ≤ 9223372036854775807) : Calls Try.prog 13 #[.int .i64 (n : Int), .int .i64 (z : Int)] w fun e w' => e = .returned (.int .i64 (((n - 1) % z + 1 : Nat) : Int)) ∧ w' = w := by
  have h1 : (n - 1) % z ≤ n - 1 := Nat.mod_le _ _
  have h2 : IntKind.i64.wrap ((n : Int) - 1) = ((n - 1 : Nat) : Int) := by rw [IntWalk.i64_in _ (by omega)]; omega
  have h3 : Int.tmod ((n - 1 : Nat) : Int) (z : Int) = (((n - 1) % z : Nat) : Int) := rfl
  have h4 : IntKind.i64.wrap ((((n - 1) % z : Nat) : Int) + 1) = (((n - 1) % z + 1 : Nat) : Int) := by rw [IntWalk.i64_in _ (by omega)]; omega
  have h5 : (z : Int) ≠ 0 := by omega
  have h6 : IntKind.i64.wrap (((n - 1) % z : Nat) : Int) = (((n - 1) % z : Nat) : Int) := IntWalk.i64_in _ (by omega)
  generalize (n - 1) % z = R at *
  go_enter Try.func13, Try.ntmps13
  go_wp2
  go_ret
  exact ⟨rfl, rfl⟩
theorem gclone_c (s : ByteArray) (w : World) (hs : s.size ≤ 281474976710656) : Calls Try.prog 12 #[.string s] w fun e w' => e = .returned (.string s) ∧ Below w.heap.size w w' := by
  have C := Lib.hid (Try.stringslite_Clone s w hs)
  go_enter Try.func12, Try.ntmps12
  go_wp2_with (first | (go_at_call 16; refine C.out.mono ?_; rintro e w1 ⟨rfl, hb⟩) | fail)
  go_ret
  exact ⟨rfl, hb⟩

set_option maxHeartbeats 2000000 in
theorem gsplit_c (s : ByteArray) (p q : Int) (w : World) (hs : s.size ≤ 1000) (hp : -9223372036854775808 ≤ p ∧ p ≤ 9223372036854775807) (hq : -9223372036854775808 ≤ q ∧ q ≤ 9223372036854775807) :
    Calls Try.prog 8 #[.string s, .int .i64 p, .int .i64 q] w fun e w' => ∃ v, e = .returned v ∧ Hid (OwTx w' w.heap.size v (splG s p q)) ∧ Hid (Below w.heap.size w w') := by
  have C := Lib.hid (gclone_c s w (by omega))
  by_cases h1 : p < 1
  · have e1 : splG s p q = [s] := by rw [splG, if_pos (.inl h1)]
    rw [e1]
    have g1 : decide (p < 1) = true := decide_eq_true h1
    clear e1
    go_enter Try.func8, Try.ntmps8
    go_wp2_with (first | (go_at_call 12; refine C.out.mono ?_; rintro e w1 ⟨rfl, hb⟩) | fail)
    go_ret
    exact ⟨_, rfl, Lib.hid (own_weaken (OwTx.one w1 s) hb.size), Lib.hid (hb.alloc hb.size _)⟩
  have g1 : decide (p < 1) = false := decide_eq_false h1
  by_cases h2 : (s.size : Int) ≤ p
  · have e1 : splG s p q = [s] := by rw [splG, if_pos (.inr h2)]
    rw [e1]
    have g2 : decide ((s.size : Int) ≤ p) = true := decide_eq_true h2
    clear e1
    go_enter Try.func8, Try.ntmps8
    go_wp2_with (first | (go_at_call 12; refine C.out.mono ?_; rintro e w1 ⟨rfl, hb⟩) | fail)
    go_ret
    exact ⟨_, rfl, Lib.hid (own_weaken (OwTx.one w1 s) hb.size), Lib.hid (hb.alloc hb.size _)⟩
  have g2 : decide ((s.size : Int) ≤ p) = false := decide_eq_false h2
  obtain ⟨P, rfl⟩ : ∃ P : Nat, p = (P : Int) := ⟨p.toNat, by omega⟩
  have e1 : splG s (P : Int) q = bkG s (if q < 1 then P else q.toNat) (s.size - P) ++ [s.extract (s.size - P) s.size] := by rw [splG, if_neg (by omega)]; rfl
  rw [e1]
  generalize hL : s.size - P = L
  have hn : s.size = L + P := by omega
  have hP : 1 ≤ P := by omega
  have hL1 : 1 ≤ L := by omega
  clear e1
  by_cases h3 : q < 1
  · rw [if_pos h3]
    have g3 : decide (q < 1) = true := decide_eq_true h3
    have hP9 : P ≤ 9223372036854775807 := by omega
    have hF : (L - 1) % P + 1 ≤ L := by have := Nat.mod_le (L - 1) P; omega
    have hF2 : (L - 1) % P + 1 ≤ P := by have := Nat.mod_lt (L - 1) (show 0 < P by omega); omega
    have hD : L = ((L - 1) % P + 1) + P * ((L - 1) / P) := by have := Nat.mod_add_div (L - 1) P; omega
    have hM : (L - 1) / P ≤ L - 1 := Nat.div_le_self _ _
    have C2 := Lib.hid (fun W => rest_c L P W ⟨hL1, by omega⟩ (by omega))
    have hF1 : 1 ≤ (L - 1) % P + 1 := by omega
    have hM2 : (L - 1) / P ≤ 1000 := by omega
    generalize (L - 1) % P + 1 = F at *
    generalize (L - 1) / P = M at *
    have a1 : IntKind.i64.wrap ((s.size : Int) - (P : Int)) = (L : Int) := by rw [IntWalk.i64_in _ (by omega)]; omega
    have a2 : IntKind.i64.wrap ((L : Int) - (F : Int)) = ((L - F : Nat) : Int) := by rw [IntWalk.i64_in _ (by omega)]; omega
    have a3 : Int.tdiv ((L - F : Nat) : Int) (P : Int) = (M : Int) := by
      show (((L - F) / P : Nat) : Int) = _
      rw [show L - F = P * M by omega, Nat.mul_div_cancel_left _ (by omega)]
    have a4 : IntKind.i64.wrap (M : Int) = (M : Int) := IntWalk.i64_in _ (by omega)
    have a5 : IntKind.i64.wrap ((M : Int) + 2) = ((M + 2 : Nat) : Int) := by rw [IntWalk.i64_in _ (by omega)]; omega
    have a6 : (P : Int) ≠ 0 := by omega
    have HD := Lib.hid hD
    have HN := Lib.hid hn
    have HL := Lib.hid hL
    clear hD hn hL hP hL1 hM hp hq
    go_enter Try.func8, Try.ntmps8
    go_upto_region 8 with (first | (go_at_call 12; refine C.out.mono ?_; rintro e w1 ⟨rfl, hb⟩) | (go_at_call 13; refine (C2.out _).mono ?_; rintro e2 w2 ⟨rfl, rfl⟩) | fail)
    have HB := Lib.hid hb
    obtain ⟨i0, hi, hz0, hz1, hz2⟩ := info_parts str_info
    clear hb C C2
    go_wp2_with (at_make; refine wpList_make_own _ rfl _ _ 23 rfl w.heap.size 9 i0 (.string ⟨#[]⟩) 1 Try.underlying23 hi hz0 hz1 _ _ _ (M + 2) rfl rfl ?b1 ?b2 ?b3 HB.out.size ?_)
    case b1 => go_num
    case b2 => rw [hz2]; omega
    case b3 => unfold maxLen; omega
    intro w3 ho3 hg3
    have HO3 : Hid (OwTx w3 w.heap.size (.slice (some ⟨w2.heap.size, 0, none⟩) 0 (M + 2)) []) := Lib.hid ho3
    have HB3 := Lib.hid (HB.out.grown hg3 HB.out.size fun k hk => nomatch hk)
    have hFs : F ≤ s.size := by have := HN.out; omega
    have hLs : L ≤ s.size := by have := HN.out; omega
    clear ho3 hg3 HB hi hz0 hz1 hz2
    go_wp2_with (at_builtin; go_must (refine wpList_app_txt rfl (.tmp 40) (.tmp 44) _ rfl Try.underlying23 w.heap.size _ [] rfl HO3.out _ rfl (by simp) HB3.out HB3.out.size ?_))
    intro v4 w4 ho4 hb4
    have HS4 : Hid (bkG s P F = [s.extract 0 F]) := Lib.hid (bkG_last hF2)
    clear HO3 HB3
    go_wp2
    go_loopw [9, 10] (fun v a wr => ∃ k j : Nat, 1 ≤ k ∧ k ≤ L ∧ a = .int .i64 (k : Int) ∧ L = k + P * j ∧ OwTx wr w.heap.size v (bkG s P k) ∧ Below w.heap.size w wr) (fun _ a _ => L - (intOf a).toNat)
    case atStart => exact ⟨F, M, hF1, hF, rfl, HD.out, by rw [HS4.out]; exact ho4.out, hb4.out⟩
    case round =>
      obtain ⟨k, j, hk1, hkL, rfl, hj, ho0, hb0⟩ := hrel
      have HO := Lib.hid ho0
      have HB := Lib.hid hb0
      have HJ := Lib.hid hj
      clear ho0 hb0 hj
      have HLN : Hid ((bkG s P k).length ≤ 1000000000) := Lib.hid (by have := (bkG_len (s := s) (q := P) (by omega) k hk1).2; have := HN.out; omega)
      by_cases hlt : k < L
      · have gi : decide ((k : Int) < (L : Int)) = true := decide_eq_true (by omega)
        obtain ⟨i, rfl⟩ : ∃ i, j = i + 1 := ⟨j - 1, by have := HJ.out; cases j with | zero => omega | succ n => rfl⟩
        have HJ2 : Hid (L = (k + P) + P * i) := Lib.hid (by have := HJ.out; rw [Nat.mul_add, Nat.mul_one] at this; omega)
        have hkq : k + P ≤ L := by have := HJ2.out; omega
        have hsz : k + P ≤ s.size := by have := HN.out; omega
        have b1 : IntKind.i64.wrap ((k : Int) + (P : Int)) = ((k + P : Nat) : Int) := by rw [IntWalk.i64_in _ (by omega)]; omega
        have HST := Lib.hid (bkG_step (s := s) (q := P) (at_ := k) (by omega) hk1)
        go_wp2_with (at_builtin; go_must (refine wpList_app_txt rfl (.tmp 53) (.tmp 60) _ rfl Try.underlying23 w.heap.size _ _ rfl HO.out _ rfl HLN.out HB.out HB.out.size ?_))
        intro v5 w5 ho5 hb5
        go_wp2
        go_roundw
        case rel => exact ⟨k + P, i, by omega, hkq, by go_num, HJ2.out, by rw [HST.out]; exact ho5.out, hb5.out⟩
        case measure => simp [intOf]; omega
      · obtain rfl : k = L := by omega
        have gi : decide ((k : Int) < (k : Int)) = false := decide_eq_false (by omega)
        have hsz : k ≤ s.size := by have := HN.out; omega
        go_wp2_with (at_builtin; go_must (refine wpList_app_txt rfl (.tmp 62) (.tmp 66) _ rfl Try.underlying23 w.heap.size _ _ rfl HO.out _ rfl HLN.out HB.out HB.out.size ?_))
        intro v5 w5 ho5 hb5
        go_wp2
        go_ret
        exact ⟨_, rfl, ho5, hb5⟩
  · rw [if_neg h3]
    have g3 : decide (q < 1) = false := decide_eq_false h3
    obtain ⟨Q, rfl⟩ : ∃ Q : Nat, q = (Q : Int) := ⟨q.toNat, by omega⟩
    have hQ : 1 ≤ Q ∧ Q ≤ 9223372036854775807 := by omega
    rw [Int.toNat_natCast]
    have hF : (L - 1) % Q + 1 ≤ L := by have := Nat.mod_le (L - 1) Q; omega
    have hF2 : (L - 1) % Q + 1 ≤ Q := by have := Nat.mod_lt (L - 1) (show 0 < Q by omega); omega
    have hD : L = ((L - 1) % Q + 1) + Q * ((L - 1) / Q) := by have := Nat.mod_add_div (L - 1) Q; omega
    have hM : (L - 1) / Q ≤ L - 1 := Nat.div_le_self _ _
    have C2 := Lib.hid (fun W => rest_c L Q W ⟨hL1, by omega⟩ (by omega))
    have hF1 : 1 ≤ (L - 1) % Q + 1 := by omega
    have hM2 : (L - 1) / Q ≤ 1000 := by omega
    generalize (L - 1) % Q + 1 = F at *
    generalize (L - 1) / Q = M at *
    have a1 : IntKind.i64.wrap ((s.size : Int) - (P : Int)) = (L : Int) := by rw [IntWalk.i64_in _ (by omega)]; omega
    have a2 : IntKind.i64.wrap ((L : Int) - (F : Int)) = ((L - F : Nat) : Int) := by rw [IntWalk.i64_in _ (by omega)]; omega
    have a3 : Int.tdiv ((L - F : Nat) : Int) (Q : Int) = (M : Int) := by
      show (((L - F) / Q : Nat) : Int) = _
      rw [show L - F = Q * M by omega, Nat.mul_div_cancel_left _ (by omega)]
    have a4 : IntKind.i64.wrap (M : Int) = (M : Int) := IntWalk.i64_in _ (by omega)
    have a5 : IntKind.i64.wrap ((M : Int) + 2) = ((M + 2 : Nat) : Int) := by rw [IntWalk.i64_in _ (by omega)]; omega
    have a6 : (Q : Int) ≠ 0 := by omega
    have HD := Lib.hid hD
    have HN := Lib.hid hn
    have HL := Lib.hid hL
    clear hD hn hL hP hL1 hM hp hq h3
    go_enter Try.func8, Try.ntmps8
    go_upto_region 8 with (first | (go_at_call 12; refine C.out.mono ?_; rintro e w1 ⟨rfl, hb⟩) | (go_at_call 13; refine (C2.out _).mono ?_; rintro e2 w2 ⟨rfl, rfl⟩) | fail)
    have HB := Lib.hid hb
    obtain ⟨i0, hi, hz0, hz1, hz2⟩ := info_parts str_info
    clear hb C C2
    go_wp2_with (at_make; refine wpList_make_own _ rfl _ _ 23 rfl w.heap.size 9 i0 (.string ⟨#[]⟩) 1 Try.underlying23 hi hz0 hz1 _ _ _ (M + 2) rfl rfl ?b1 ?b2 ?b3 HB.out.size ?_)
    case b1 => go_num
    case b2 => rw [hz2]; omega
    case b3 => unfold maxLen; omega
    intro w3 ho3 hg3
    have HO3 : Hid (OwTx w3 w.heap.size (.slice (some ⟨w2.heap.size, 0, none⟩) 0 (M + 2)) []) := Lib.hid ho3
    have HB3 := Lib.hid (HB.out.grown hg3 HB.out.size fun k hk => nomatch hk)
    have hFs : F ≤ s.size := by have := HN.out; omega
    have hLs : L ≤ s.size := by have := HN.out; omega
    clear ho3 hg3 HB hi hz0 hz1 hz2
    go_wp2_with (at_builtin; go_must (refine wpList_app_txt rfl (.tmp 40) (.tmp 44) _ rfl Try.underlying23 w.heap.size _ [] rfl HO3.out _ rfl (by simp) HB3.out HB3.out.size ?_))
    intro v4 w4 ho4 hb4
    have HS4 : Hid (bkG s Q F = [s.extract 0 F]) := Lib.hid (bkG_last hF2)
    clear HO3 HB3
    go_wp2
    go_loopw [9, 10] (fun v a wr => ∃ k j : Nat, 1 ≤ k ∧ k ≤ L ∧ a = .int .i64 (k : Int) ∧ L = k + Q * j ∧ OwTx wr w.heap.size v (bkG s Q k) ∧ Below w.heap.size w wr) (fun _ a _ => L - (intOf a).toNat)
    case atStart => exact ⟨F, M, hF1, hF, rfl, HD.out, by rw [HS4.out]; exact ho4.out, hb4.out⟩
    case round =>
      obtain ⟨k, j, hk1, hkL, rfl, hj, ho0, hb0⟩ := hrel
      have HO := Lib.hid ho0
      have HB := Lib.hid hb0
      have HJ := Lib.hid hj
      clear ho0 hb0 hj
      have HLN : Hid ((bkG s Q k).length ≤ 1000000000) := Lib.hid (by have := (bkG_len (s := s) (q := Q) (by omega) k hk1).2; have := HN.out; omega)
      by_cases hlt : k < L
      · have gi : decide ((k : Int) < (L : Int)) = true := decide_eq_true (by omega)
        obtain ⟨i, rfl⟩ : ∃ i, j = i + 1 := ⟨j - 1, by have := HJ.out; cases j with | zero => omega | succ n => rfl⟩
        have HJ2 : Hid (L = (k + Q) + Q * i) := Lib.hid (by have := HJ.out; rw [Nat.mul_add, Nat.mul_one] at this; omega)
        have hkq : k + Q ≤ L := by have := HJ2.out; omega
        have hsz : k + Q ≤ s.size := by have := HN.out; omega
        have b1 : IntKind.i64.wrap ((k : Int) + (Q : Int)) = ((k + Q : Nat) : Int) := by rw [IntWalk.i64_in _ (by omega)]; omega
        have HST := Lib.hid (bkG_step (s := s) (q := Q) (at_ := k) (by omega) hk1)
        go_wp2_with (at_builtin; go_must (refine wpList_app_txt rfl (.tmp 53) (.tmp 60) _ rfl Try.underlying23 w.heap.size _ _ rfl HO.out _ rfl HLN.out HB.out HB.out.size ?_))
        intro v5 w5 ho5 hb5
        go_wp2
        go_roundw
        case rel => exact ⟨k + Q, i, by omega, hkq, by go_num, HJ2.out, by rw [HST.out]; exact ho5.out, hb5.out⟩
        case measure => simp [intOf]; omega
      · obtain rfl : k = L := by omega
        have gi : decide ((k : Int) < (k : Int)) = false := decide_eq_false (by omega)
        have hsz : k ≤ s.size := by have := HN.out; omega
        go_wp2_with (at_builtin; go_must (refine wpList_app_txt rfl (.tmp 62) (.tmp 66) _ rfl Try.underlying23 w.heap.size _ _ rfl HO.out _ rfl HLN.out HB.out HB.out.size ?_))
        intro v5 w5 ho5 hb5
        go_wp2
        go_ret
        exact ⟨_, rfl, ho5, hb5⟩
theorem ext_ext {s : ByteArray} {e i j : Nat} (hj : j ≤ e) : (s.extract 0 e).extract i j = s.extract i j := by
  apply bts_inj
  rw [bts_extract, bts_upto, bts_extract, List.take_take, Nat.min_eq_left hj]
theorem cut_ext {s t : ByteArray} (h : t = s.extract 0 t.size) {i j : Nat} (hj : j ≤ t.size) : t.extract i j = s.extract i j := by
  have := ext_ext (s := s) (e := t.size) (i := i) hj
  rw [← h] at this
  exact this
theorem ext_all (s : ByteArray) : s.extract 0 s.size = s := by
  apply bts_inj
  rw [bts_from, List.drop_zero]
/-- What is left to be cut, and what is cut. -/
def lefG (s : ByteArray) (q z e : Nat) : List ByteArray := if e ≤ z then [s.extract 0 e] else bkG s q (e - z) ++ [s.extract (e - z) e]
theorem lefG_bk {s : ByteArray} {q e : Nat} (hq : 1 ≤ q) : bkG s q e = lefG s q q e := by
  by_cases h : e ≤ q
  · rw [bkG_last h, lefG, if_pos h]
  · rw [bkG_more hq (by omega), lefG, if_neg h]
set_option maxHeartbeats 2000000 in
theorem groups_c (s : ByteArray) (p q : Int) (w : World) (hs : s.size ≤ 1000) (hp : -9223372036854775808 ≤ p ∧ p ≤ 9223372036854775807) (hq : -9223372036854775808 ≤ q ∧ q ≤ 9223372036854775807) :
    Calls Try.prog 9 #[.string s, .int .i64 p, .int .i64 q] w fun e w' => ∃ v, e = .returned v ∧ Hid (OwTx w' w.heap.size v (splG s p q)) ∧ Hid (Below w.heap.size w w') := by
  by_cases h1 : p < 1
  · have e1 : splG s p q = [s] := by rw [splG, if_pos (.inl h1)]
    rw [e1]
    have g1 : decide (p < 1) = true := decide_eq_true h1
    clear e1
    go_enter Try.func9, Try.ntmps9
    go_wp2
    go_ret
    exact ⟨_, rfl, Lib.hid (OwTx.one w s), Lib.hid ((Below.refl _ w).alloc (Nat.le_refl _) _)⟩
  have g1 : decide (p < 1) = false := decide_eq_false h1
  obtain ⟨P, rfl⟩ : ∃ P : Nat, p = (P : Int) := ⟨p.toNat, by omega⟩
  have hP : 1 ≤ P ∧ P ≤ 9223372036854775807 := by omega
  have e1 : splG s (P : Int) q = lefG s (if q < 1 then P else q.toNat) P s.size := by
    unfold splG lefG
    by_cases h : s.size ≤ P
    · rw [if_pos (by omega), if_pos h, ext_all]
    · rw [if_neg (by omega), if_neg h]; rfl
  generalize hX : splG s (P : Int) q = X
  rw [hX] at e1
  clear hX hp h1
  by_cases h3 : q < 1
  · rw [if_pos h3] at e1
    have g3 : decide (q < 1) = true := decide_eq_true h3
    have HE := Lib.hid e1
    have HO0 := Lib.hid (OwTx.none_ w)
    have HB0 := Lib.hid ((Below.refl w.heap.size w).alloc (Nat.le_refl _) (.cells #[] 9))
    clear e1
    go_enter Try.func9, Try.ntmps9
    go_upto_region 7 with fail
    generalize w.alloc (.cells #[] 9) = W0 at *
    go_wp2
    go_loopw [0, 7, 8] (fun sv ov zv wr => ∃ (e z : Nat) (t : ByteArray) (ts : List ByteArray), sv = .string t ∧ t.size = e ∧ t = s.extract 0 e ∧ e ≤ s.size ∧ zv = .int .i64 (z : Int) ∧ 1 ≤ z ∧ z ≤ 9223372036854775807 ∧ X = lefG s P z e ++ ts ∧ ts.length + e ≤ s.size ∧ OwTx wr w.heap.size ov ts ∧ Below w.heap.size w wr) (fun sv _ _ _ => strLen sv)
    case atStart => exact ⟨s.size, P, s, [], rfl, rfl, (ext_all s).symm, Nat.le_refl _, rfl, hP.1, hP.2, by rw [List.append_nil]; exact HE.out, by simp, HO0.out, HB0.out⟩
    case round =>
      obtain ⟨e, z, t, ts, rfl, hte, ht, hes, rfl, hz1, hz2, hx, hl, ho0, hb0⟩ := hrel
      have HT := Lib.hid ht
      have HX := Lib.hid hx
      have HO := Lib.hid ho0
      have HB := Lib.hid hb0
      subst hte
      clear ht hx ho0 hb0 HE HO0 HB0
      have hll : ts.length ≤ 1000000000 := by omega
      by_cases hlt : z < t.size
      · have gi : decide ((z : Int) < (t.size : Int)) = true := decide_eq_true (by omega)
        have b1 : IntKind.i64.wrap ((t.size : Int) - (z : Int)) = ((t.size - z : Nat) : Int) := by rw [IntWalk.i64_in _ (by omega)]; omega
        have hsz : t.size - z ≤ t.size := Nat.sub_le _ _
        have HX2 : Hid (X = lefG s P P (t.size - z) ++ (t.extract (t.size - z) t.size :: ts)) := Lib.hid (by rw [HX.out, lefG, if_neg (by omega), ← lefG_bk (by omega), List.append_assoc, cut_ext HT.out (Nat.le_refl _)]; rfl)
        have HT2 : Hid (t.extract 0 (t.size - z) = s.extract 0 (t.size - z)) := Lib.hid (cut_ext HT.out hsz)
        have hx0 : (t.extract 0 (t.size - z)).size = t.size - z := by rw [ByteArray.size_extract]; omega
        go_wp2_with (at_builtin; go_must (refine wpList_pre_txt rfl (.tmp 28) (.tmp 29) _ rfl Try.underlying23 w.heap.size _ ts rfl HO.out _ rfl hll HB.out HB.out.size ?_))
        intro v5 w5 ho5 hb5
        go_wp2
        go_roundw
        case rel => exact ⟨t.size - z, P, _, _, rfl, hx0, HT2.out, by omega, rfl, by omega, by omega, HX2.out, by rw [List.length_cons]; omega, ho5.out, hb5.out⟩
        case measure => simp [strLen]; omega
      · have gi : decide ((z : Int) < (t.size : Int)) = false := decide_eq_false (by omega)
        have HX2 : Hid (X = t :: ts) := Lib.hid (by rw [HX.out, lefG, if_pos (by omega), ← HT.out]; rfl)
        go_wp2_with (at_builtin; go_must (refine wpList_pre_txt rfl (.tmp 39) (.tmp 40) _ rfl Try.underlying23 w.heap.size _ ts rfl HO.out _ rfl hll HB.out HB.out.size ?_))
        intro v5 w5 ho5 hb5
        go_wp2
        go_ret
        exact ⟨_, rfl, by rw [HX2.out]; exact ho5, hb5⟩
  · rw [if_neg h3] at e1
    have g3 : decide (q < 1) = false := decide_eq_false h3
    obtain ⟨Q, rfl⟩ : ∃ Q : Nat, q = (Q : Int) := ⟨q.toNat, by omega⟩
    have hQ : 1 ≤ Q ∧ Q ≤ 9223372036854775807 := by omega
    rw [Int.toNat_natCast] at e1
    have HE := Lib.hid e1
    have HO0 := Lib.hid (OwTx.none_ w)
    have HB0 := Lib.hid ((Below.refl w.heap.size w).alloc (Nat.le_refl _) (.cells #[] 9))
    clear e1
    go_enter Try.func9, Try.ntmps9
    go_upto_region 7 with fail
    generalize w.alloc (.cells #[] 9) = W0 at *
    go_wp2
    go_loopw [0, 7, 8] (fun sv ov zv wr => ∃ (e z : Nat) (t : ByteArray) (ts : List ByteArray), sv = .string t ∧ t.size = e ∧ t = s.extract 0 e ∧ e ≤ s.size ∧ zv = .int .i64 (z : Int) ∧ 1 ≤ z ∧ z ≤ 9223372036854775807 ∧ X = lefG s Q z e ++ ts ∧ ts.length + e ≤ s.size ∧ OwTx wr w.heap.size ov ts ∧ Below w.heap.size w wr) (fun sv _ _ _ => strLen sv)
    case atStart => exact ⟨s.size, P, s, [], rfl, rfl, (ext_all s).symm, Nat.le_refl _, rfl, hP.1, hP.2, by rw [List.append_nil]; exact HE.out, by simp, HO0.out, HB0.out⟩
    case round =>
      obtain ⟨e, z, t, ts, rfl, hte, ht, hes, rfl, hz1, hz2, hx, hl, ho0, hb0⟩ := hrel
      have HT := Lib.hid ht
      have HX := Lib.hid hx
      have HO := Lib.hid ho0
      have HB := Lib.hid hb0
      subst hte
      clear ht hx ho0 hb0 HE HO0 HB0
      have hll : ts.length ≤ 1000000000 := by omega
      by_cases hlt : z < t.size
      · have gi : decide ((z : Int) < (t.size : Int)) = true := decide_eq_true (by omega)
        have b1 : IntKind.i64.wrap ((t.size : Int) - (z : Int)) = ((t.size - z : Nat) : Int) := by rw [IntWalk.i64_in _ (by omega)]; omega
        have hsz : t.size - z ≤ t.size := Nat.sub_le _ _
        have HX2 : Hid (X = lefG s Q Q (t.size - z) ++ (t.extract (t.size - z) t.size :: ts)) := Lib.hid (by rw [HX.out, lefG, if_neg (by omega), ← lefG_bk (by omega), List.append_assoc, cut_ext HT.out (Nat.le_refl _)]; rfl)
        have HT2 : Hid (t.extract 0 (t.size - z) = s.extract 0 (t.size - z)) := Lib.hid (cut_ext HT.out hsz)
        have hx0 : (t.extract 0 (t.size - z)).size = t.size - z := by rw [ByteArray.size_extract]; omega
        go_wp2_with (at_builtin; go_must (refine wpList_pre_txt rfl (.tmp 28) (.tmp 29) _ rfl Try.underlying23 w.heap.size _ ts rfl HO.out _ rfl hll HB.out HB.out.size ?_))
        intro v5 w5 ho5 hb5
        go_wp2
        go_roundw
        case rel => exact ⟨t.size - z, Q, _, _, rfl, hx0, HT2.out, by omega, rfl, by omega, by omega, HX2.out, by rw [List.length_cons]; omega, ho5.out, hb5.out⟩
        case measure => simp [strLen]; omega
      · have gi : decide ((z : Int) < (t.size : Int)) = false := decide_eq_false (by omega)
        have HX2 : Hid (X = t :: ts) := Lib.hid (by rw [HX.out, lefG, if_pos (by omega), ← HT.out]; rfl)
        go_wp2_with (at_builtin; go_must (refine wpList_pre_txt rfl (.tmp 39) (.tmp 40) _ rfl Try.underlying23 w.heap.size _ ts rfl HO.out _ rfl hll HB.out HB.out.size ?_))
        intro v5 w5 ho5 hb5
        go_wp2
        go_ret
        exact ⟨_, rfl, by rw [HX2.out]; exact ho5, hb5⟩
theorem ends_c (s t : ByteArray) (w : World) (hs : s.size ≤ 1000) (h1 : t.size ≤ s.size) (h2 : s.extract (s.size - t.size) s.size = t) : Calls Try.prog 11 #[.string s, .string t] w fun e w' => e = .returned (.bool true) ∧ w' = w := by
  have g1 : decide ((t.size : Int) ≤ (s.size : Int)) = true := decide_eq_true (by omega)
  have b1 : IntKind.i64.wrap ((s.size : Int) - (t.size : Int)) = ((s.size - t.size : Nat) : Int) := by rw [IntWalk.i64_in _ (by omega)]; omega
  have b2 : s.size - t.size ≤ s.size := Nat.sub_le _ _
  have HE := Lib.hid h2
  clear h2
  go_enter Try.func11, Try.ntmps11
  go_wp2
  go_ret
  refine ⟨ret_bool ?_, rfl⟩
  rw [HE.out]; exact beq_self_eq_true _
set_option maxHeartbeats 2000000 in
theorem join_c (A : Option Addr) (n c m : Nat) (ts : List ByteArray) (t : ByteArray) (w : World) (h : Tls w A n ts) (hn : n ≤ 1000) (ht : ∀ x ∈ ts, x.size ≤ m) (hm : m ≤ 1000 ∧ t.size ≤ 1000) (hmn : n * (m + t.size) ≤ 900000) :
    Calls Try.prog 10 #[.slice A n c, .string t] w fun e w' => e = .returned (.string (stz (joinB ts t))) ∧ Hid (Below w.heap.size w w') := by
  have HI := Lib.hid h
  have HLn := Lib.hid h.len
  have HTS := Lib.hid ht
  have hln : ∀ k, (joinB (ts.take k) t).length ≤ 900000 := fun k => by
    have := joinB_len (l := ts.take k) (t := t) fun x hx => ht x (List.mem_of_mem_take hx)
    refine Nat.le_trans this (Nat.le_trans (Nat.mul_le_mul_right _ ?_) hmn)
    rw [List.length_take, h.len]; omega
  have HLN := Lib.hid hln
  have HBL : Hid (Bld (w.alloc (.cells #[.pointer none, .slice none 0 0] 36)) w.heap.size (.pointer none) (.slice none 0 0) []) := Lib.hid ⟨BX.new _ _ _, World.ownsRow_nil _ _ _ _⟩
  have HBW := Lib.hid ((Below.refl w.heap.size w).alloc (Nat.le_refl _) (.cells #[.pointer none, .slice none 0 0] 36))
  clear h hln ht hmn
  go_enter Try.func10, Try.ntmps10
  go_upto_region 2 with fail
  generalize w.alloc (.cells #[.pointer none, .slice none 0 0] 36) = W0 at *
  generalize hgb : w.heap.size = gb at *
  have HGB := Lib.hid hgb
  clear hgb
  go_wp2
  go_loopw [10] (fun iv wr => ∃ (k : Nat) (p v : Value), k ≤ n ∧ iv = .int .i64 (k : Int) ∧ (p = .pointer none ∨ p = .pointer (some ⟨gb, 0, none⟩)) ∧ Bld wr gb p v (joinB (ts.take k) t) ∧ Below gb w wr) (fun iv _ => n - (intOf iv).toNat)
  case atStart => exact ⟨0, _, _, Nat.zero_le _, rfl, .inl rfl, by rw [joinB_take_zero]; exact HBL.out, HBW.out⟩
  case round =>
    obtain ⟨k, p, v, hk, rfl, hp, hbl, hb0⟩ := hrel
    have HBl := Lib.hid hbl
    have HB := Lib.hid hb0
    have HP := Lib.hid hp
    have HT := Lib.hid (HI.out.below (w' := wr) (by rw [HGB.out]; exact hb0))
    clear hbl hb0 hp HBL HBW
    by_cases hlt : k < n
    · have gi : decide ((k : Int) < (n : Int)) = true := decide_eq_true (by omega)
      have hkl : k < ts.length := by rw [HLn.out]; exact hlt
      obtain ⟨ad, rfl, hc⟩ := HT.out.at_ hlt hkl
      have hxm : ts[k].size ≤ 1000000 := Nat.le_trans (HTS.out _ (List.getElem_mem hkl)) (by omega)
      have hl1 := HLN.out k
      rcases Nat.eq_zero_or_pos k with rfl | hk0
      · have hc0 : wr.cell? ad = some (.string ts[0]) := hc
        clear hc
        have gz : decide ((0 : Int) < ((0 : Nat) : Int)) = false := rfl
        have HJ := Lib.hid (joinB_take_one (t := t) hkl)
        have HC := Lib.hid (wStr_c gb p v _ ts[0] wr HP.out HBl.out hxm (by omega))
        go_wp2_with (first
          | (go_at_call 14; refine HC.out.mono ?_; rintro e3 w3 ⟨rfl, v3, h3, hb3⟩)
          | fail)
        go_roundw
        case rel => exact ⟨1, _, _, by omega, by go_num, .inr rfl, by rw [HJ.out]; have := h3.out; rw [joinB_take_zero, List.nil_append] at this; exact this, HB.out.trans hb3.out⟩
        case measure => simp [intOf]; omega
      · have gz : decide ((0 : Int) < (k : Int)) = true := decide_eq_true (by omega)
        have HJ := Lib.hid (joinB_take (t := t) hk0 hkl)
        have HC1 := Lib.hid (wStr_c gb p v _ t wr HP.out HBl.out (by omega) (by omega))
        have HC2 := Lib.hid (fun v W (h : Bld W gb (.pointer (some ⟨gb, 0, none⟩)) v (joinB (ts.take k) t ++ bts t)) => wStr_c gb _ v _ ts[k] W (.inr rfl) h hxm (by rw [List.length_append, bts_length]; omega))
        generalize ts[k] = x at *
        go_upto_region 7 with (first
          | (go_at_call 14; refine HC1.out.mono ?_; rintro e3 w3 ⟨rfl, v3, h3, hb3⟩)
          | fail)
        go_wp2_with (first
          | (go_at_call 14; refine (HC2.out _ _ h3.out).mono ?_; rintro e4 w4 ⟨rfl, v4, h4, hb4⟩)
          | fail)
        go_roundw
        case rel => exact ⟨k + 1, _, _, by omega, by go_num, .inr rfl, by rw [HJ.out]; exact h4.out, HB.out.trans (hb3.out.trans hb4.out)⟩
        case measure => simp [intOf]; omega
    · obtain rfl : k = n := by omega
      have gi : decide ((k : Int) < (k : Int)) = false := decide_eq_false (by omega)
      have HE : Hid (ts.take k = ts) := Lib.hid (List.take_of_length_le (by rw [HLn.out]; exact Nat.le_refl _))
      have HS := Lib.hid (by have := bStr_c gb p v _ wr HP.out HBl.out (joinB_lt _ _); rw [HE.out] at this; exact this)
      go_wp2_with (first
        | (go_at_call 15; refine HS.out.mono ?_; rintro e3 w3 ⟨rfl, hb3⟩)
        | fail)
      go_ret
      exact ⟨rfl, Lib.hid (by rw [HGB.out]; exact HB.out.trans hb3)⟩
end Go.Proofs.Ytiflkkmeloclfaa
