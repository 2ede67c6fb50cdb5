/-
  UD: the contract of the document's First.
-/
import Derived.Test.YtljgpdghpkpffaaMA
import Derived.Test.YtljgpdghpkpffaaMV
import Derived.IntWalk
set_option maxRecDepth 100000
namespace Go.Proofs.Ytljgpdghpkpffaa
open Go.RowKit
set_option maxHeartbeats 4000000 in
theorem first_1 (s : ByteArray) (w : World) (hs : s.size ≤ 1000000000000000) (hp : 0 < s.size) (hhi : (bts s).getD 0 0 < 128) :
    Calls Try.prog 32 #[.string s] w fun e w' => e = .returned (.tuple #[.int .i32 (fstP (bts s)).1, .int .i64 (fstP (bts s)).2]) ∧ Below w.heap.size w w' := by
  have KL := Lib.hid (klass_1 hhi)
  have hne : s.toList.isEmpty = false := by rw [isEmpty_bts]; exact decide_eq_false (by omega)
  have hb0 : s[0].toNat = (bts s).getD 0 0 := (bts_get s 0 hp).symm
  have LT := Lib.hid (bts_lt s)
  have LEN := Lib.hid (bts_length s)
  have A1 := Lib.hid (show (bts s).getD 0 0 - 0 = accL (bts s) 0 1 from rfl)
  generalize hB : (bts s).getD 0 0 = b at *
  have HB0 := Lib.hid hB
  clear hB
  have i2 : (b : Int) < 128 := by omega
  have l192 : (b : Int) < 192 := by omega
  have l224 : (b : Int) < 224 := by omega
  have l240 : (b : Int) < 240 := by omega
  go_enter Try.func32, Try.ntmps32
  · go_wp2
    go_loopw [4, 6] (fun nv iv wr => ∃ (i N : Nat), 1 ≤ i ∧ i ≤ 1 ∧ iv = .int .i64 (i : Int) ∧ nv = .int .i64 (N : Int) ∧ N = accL (bts s) 0 i ∧ N < 128 * 64 ^ (i - 1) ∧ wr = w) (fun _ iv _ => 4 - (intOf iv).toNat)
    case atStart => exact ⟨1, b - 0, by omega, by omega, rfl, by congr 1 <;> omega, A1.out, by simp; omega, rfl⟩
    case round =>
      obtain ⟨i, N, hi1, hi2, rfl, rfl, hN0, hN1, rfl⟩ := hrel
      have HN := Lib.hid hN0
      have hN2 : N < 33554432 := Nat.lt_of_lt_of_le hN1 (by
        have : (64 : Nat) ^ (i - 1) ≤ 64 ^ 3 := Nat.pow_le_pow_right (by omega) (by omega)
        omega)
      have HN1 := Lib.hid hN1
      clear hN0 hN1
      by_cases hik : i < 1
      · exact absurd hik (by omega)
      · obtain rfl : i = 1 := by omega
        have HA := Lib.hid (fst_all LT.out (k := 1) (o := 0) (by rw [HB0.out]; exact KL.out) (by omega))
        rw [← HN.out] at HA
        have hnr : N < 2147483648 := by omega
        rcases hz : isC N with _ | _
        · have HV0 := Lib.hid (fstP_none (HA.out.2 (.inl hz)))
          have HZ := Lib.hid (show isZ (N : Int) = false by rw [isZ_nat]; exact hz)
          clear hz
          go_wp2
          have hw : IntKind.i32.wrap (N : Int) = (N : Int) := IntWalk.i32_in _ (by omega)
          refine wp_region_held_drew (S := (fun _ => True)) (by kernel_rfl) (trivial) (fun hHeld => ?_)
          refine' take_at 0 (v := _) rfl (by kernel_rfl) (by kernel_rfl) (by kernel_rfl) (fun _ _ _ h => h) rfl ?y12 hHeld ?r12
          case y12 =>
            intro w hSw
            try dsimp only at hSw
            go_simp
            try with_reducible rfl
          try simp only [Act.put, List.setIfInBounds_toArray, List.set_cons_zero, List.set_cons_succ]
          refine' take_at 1 (v := _) rfl (by kernel_rfl) (by kernel_rfl) (by kernel_rfl) (fun _ _ _ h => h) rfl ?y13 hHeld ?r13
          case y13 =>
            intro w hSw
            try dsimp only at hSw
            go_simp
            try with_reducible rfl
          try simp only [Act.put, List.setIfInBounds_toArray, List.set_cons_zero, List.set_cons_succ]
          refine step_at 2 (by kernel_rfl) rfl rfl (fun K hK => ?_)
          go_simp
          refine (refScalar_c (N : Int) _).mono ?_
          rintro r w1 ⟨rfl, rfl⟩
          rw [HZ.out]
          have hS : True := trivial
          clear hHeld
          go_wp2_with fail
          refine hK.out _ _ hS (fun hHeld => ?_)
          clear hK K hS
          try simp only [Act.put, List.setIfInBounds_toArray, List.set_cons_zero, List.set_cons_succ]
          refine' take_at 3 (v := _) rfl (by kernel_rfl) (by kernel_rfl) (by kernel_rfl) (fun _ _ _ h => h) rfl ?y14 hHeld ?r14
          case y14 =>
            intro w hSw
            try dsimp only at hSw
            go_simp
            try with_reducible rfl
          try simp only [Act.put, List.setIfInBounds_toArray, List.set_cons_zero, List.set_cons_succ]
          refine' take_at 4 (v := _) rfl (by kernel_rfl) (by kernel_rfl) (by kernel_rfl) (fun _ _ _ h => h) rfl ?y15 hHeld ?r15
          case y15 =>
            intro w hSw
            try dsimp only at hSw
            go_simp
            try with_reducible rfl
          try simp only [Act.put, List.setIfInBounds_toArray, List.set_cons_zero, List.set_cons_succ]
          refine skip_at 5 rfl (by kernel_rfl) (by kernel_rfl) (by kernel_rfl) (fun _ _ _ h => h) rfl hHeld ?_
          try simp only [Act.put, List.setIfInBounds_toArray, List.set_cons_zero, List.set_cons_succ]
          refine skip_at 6 rfl (by kernel_rfl) (by kernel_rfl) (by kernel_rfl) (fun _ _ _ h => h) rfl hHeld ?_
          try simp only [Act.put, List.setIfInBounds_toArray, List.set_cons_zero, List.set_cons_succ]
          refine skip_at 7 rfl (by kernel_rfl) (by kernel_rfl) (by kernel_rfl) (fun _ _ _ h => h) rfl hHeld ?_
          try simp only [Act.put, List.setIfInBounds_toArray, List.set_cons_zero, List.set_cons_succ]
          refine skip_at 8 rfl (by kernel_rfl) (by kernel_rfl) (by kernel_rfl) (fun _ _ _ h => h) rfl hHeld ?_
          try simp only [Act.put, List.setIfInBounds_toArray, List.set_cons_zero, List.set_cons_succ]
          refine skip_at 9 rfl (by kernel_rfl) (by kernel_rfl) (by kernel_rfl) (fun _ _ _ h => h) rfl hHeld ?_
          try simp only [Act.put, List.setIfInBounds_toArray, List.set_cons_zero, List.set_cons_succ]
          refine skip_at 10 rfl (by kernel_rfl) (by kernel_rfl) (by kernel_rfl) (fun _ _ _ h => h) rfl hHeld ?_
          try simp only [Act.put, List.setIfInBounds_toArray, List.set_cons_zero, List.set_cons_succ]
          refine skip_at 11 rfl (by kernel_rfl) (by kernel_rfl) (by kernel_rfl) (fun _ _ _ h => h) rfl hHeld ?_
          try simp only [Act.put, List.setIfInBounds_toArray, List.set_cons_zero, List.set_cons_succ]
          refine skip_at 12 rfl (by kernel_rfl) (by kernel_rfl) (by kernel_rfl) (fun _ _ _ h => h) rfl hHeld ?_
          try simp only [Act.put, List.setIfInBounds_toArray, List.set_cons_zero, List.set_cons_succ]
          refine' take_at 13 (v := _) rfl (by kernel_rfl) (by kernel_rfl) (by kernel_rfl) (fun _ _ _ h => h) rfl ?y24 hHeld ?r24
          case y24 =>
            intro w hSw
            try dsimp only at hSw
            go_simp
            try with_reducible rfl
          try simp only [Act.put, List.setIfInBounds_toArray, List.set_cons_zero, List.set_cons_succ]
          refine wpAnyH_done (by kernel_rfl) ?_ _
          clear hHeld
          go_wp2
          go_ret2
          rw [HV0.out]
          exact ⟨rfl, (Below.refl _ _).drew⟩
        · have HZ := Lib.hid (show isZ (N : Int) = true by rw [isZ_nat]; exact hz)
          have HCZ := Lib.hid hz
          clear hz
          have hlk : 1 ≤ s.size := by omega
          go_wp2
          have hw : IntKind.i32.wrap (N : Int) = (N : Int) := IntWalk.i32_in _ (by omega)
          refine wp_region_held_drew (S := (fun _ => True)) (by kernel_rfl) (trivial) (fun hHeld => ?_)
          refine' take_at 0 (v := _) rfl (by kernel_rfl) (by kernel_rfl) (by kernel_rfl) (fun _ _ _ h => h) rfl ?y1 hHeld ?r1
          case y1 =>
            intro w hSw
            try dsimp only at hSw
            go_simp
            try with_reducible rfl
          try simp only [Act.put, List.setIfInBounds_toArray, List.set_cons_zero, List.set_cons_succ]
          refine' take_at 1 (v := _) rfl (by kernel_rfl) (by kernel_rfl) (by kernel_rfl) (fun _ _ _ h => h) rfl ?y2 hHeld ?r2
          case y2 =>
            intro w hSw
            try dsimp only at hSw
            go_simp
            try with_reducible rfl
          try simp only [Act.put, List.setIfInBounds_toArray, List.set_cons_zero, List.set_cons_succ]
          refine step_at 2 (by kernel_rfl) rfl rfl (fun K hK => ?_)
          go_simp
          refine (refScalar_c (N : Int) _).mono ?_
          rintro r w1 ⟨rfl, rfl⟩
          rw [HZ.out]
          have hS : True := trivial
          clear hHeld
          go_wp2_with fail
          refine hK.out _ _ hS (fun hHeld => ?_)
          clear hK K hS
          try simp only [Act.put, List.setIfInBounds_toArray, List.set_cons_zero, List.set_cons_succ]
          refine' take_at 3 (v := _) rfl (by kernel_rfl) (by kernel_rfl) (by kernel_rfl) (fun _ _ _ h => h) rfl ?y3 hHeld ?r3
          case y3 =>
            intro w hSw
            try dsimp only at hSw
            go_simp
            try with_reducible rfl
          try simp only [Act.put, List.setIfInBounds_toArray, List.set_cons_zero, List.set_cons_succ]
          refine' take_at 4 (v := _) rfl (by kernel_rfl) (by kernel_rfl) (by kernel_rfl) (fun _ _ _ h => h) rfl ?y4 hHeld ?r4
          case y4 =>
            intro w hSw
            try dsimp only at hSw
            go_simp
            try with_reducible rfl
          try simp only [Act.put, List.setIfInBounds_toArray, List.set_cons_zero, List.set_cons_succ]
          refine' take_at 5 (v := _) rfl (by kernel_rfl) (by kernel_rfl) (by kernel_rfl) (fun _ _ _ h => h) rfl ?y5 hHeld ?r5
          case y5 =>
            intro w hSw
            try dsimp only at hSw
            go_simp
            try with_reducible rfl
          try simp only [Act.put, List.setIfInBounds_toArray, List.set_cons_zero, List.set_cons_succ]
          refine' take_at 6 (v := _) rfl (by kernel_rfl) (by kernel_rfl) (by kernel_rfl) (fun _ _ _ h => h) rfl ?y6 hHeld ?r6
          case y6 =>
            intro w hSw
            try dsimp only at hSw
            go_simp
            try with_reducible rfl
          try simp only [Act.put, List.setIfInBounds_toArray, List.set_cons_zero, List.set_cons_succ]
          refine' take_at 9 (v := _) rfl (by kernel_rfl) (by kernel_rfl) (by kernel_rfl) (fun _ _ _ h => h) rfl ?y7 hHeld ?r7
          case y7 =>
            intro w hSw
            try dsimp only at hSw
            go_simp
            try with_reducible rfl
          try simp only [Act.put, List.setIfInBounds_toArray, List.set_cons_zero, List.set_cons_succ]
          refine' take_at 10 (v := _) rfl (by kernel_rfl) (by kernel_rfl) (by kernel_rfl) (fun _ _ _ h => h) rfl ?y8 hHeld ?r8
          case y8 =>
            intro w hSw
            try dsimp only at hSw
            go_simp
            try with_reducible rfl
          try simp only [Act.put, List.setIfInBounds_toArray, List.set_cons_zero, List.set_cons_succ]
          refine' take_at 11 (v := _) rfl (by kernel_rfl) (by kernel_rfl) (by kernel_rfl) (fun _ _ _ h => h) rfl ?y9 hHeld ?r9
          case y9 =>
            intro w hSw
            try dsimp only at hSw
            go_simp
            try with_reducible rfl
          try simp only [Act.put, List.setIfInBounds_toArray, List.set_cons_zero, List.set_cons_succ]
          refine step_at 7 (by kernel_rfl) rfl rfl (fun K hK => ?_)
          go_simp
          refine (refBytes_c N _ HCZ.out).mono ?_
          rintro r w1 ⟨AB, mB, kB, rfl, hoB, hmB, hbB⟩
          have hcv := conv_own_stz hoB (encN_lt HCZ.out)
          have HBB := Lib.hid hbB
          clear hoB hmB hbB
          have hS : True := trivial
          clear hHeld
          go_wp2_with fail
          refine hK.out _ _ hS (fun hHeld => ?_)
          clear hK K hS
          try simp only [Act.put, List.setIfInBounds_toArray, List.set_cons_zero, List.set_cons_succ]
          refine step_at 8 (by kernel_rfl) rfl rfl (fun K hK => ?_)
          go_simp
          refine hK.out _ _ hHeld (fun hHeld => ?_)
          clear hK K
          try simp only [Act.put, List.setIfInBounds_toArray, List.set_cons_zero, List.set_cons_succ]
          refine' take_at 12 (v := _) rfl (by kernel_rfl) (by kernel_rfl) (by kernel_rfl) (fun _ _ _ h => h) rfl ?y10 hHeld ?r10
          case y10 =>
            intro w hSw
            try dsimp only at hSw
            go_simp
            try with_reducible rfl
          try simp only [Act.put, List.setIfInBounds_toArray, List.set_cons_zero, List.set_cons_succ]
          refine' take_at 13 (v := _) rfl (by kernel_rfl) (by kernel_rfl) (by kernel_rfl) (fun _ _ _ h => h) rfl ?y11 hHeld ?r11
          case y11 =>
            intro w hSw
            try dsimp only at hSw
            go_simp
            try with_reducible rfl
          try simp only [Act.put, List.setIfInBounds_toArray, List.set_cons_zero, List.set_cons_succ]
          refine wpAnyH_done (by kernel_rfl) ?_ _
          clear hHeld
          have hcmp : ((stz (encN N)).toList == (s.extract 0 1).toList) = decide (encN N = (bts s).take 1) := by
            rw [toList_beq, bts_stz (encN_lt HCZ.out), bts_upto]
          generalize ((stz (encN N)).toList == (s.extract 0 1).toList) = B at hcmp ⊢
          rcases B with _ | _
          · have HV1 := Lib.hid (fstP_none (HA.out.2 (.inr (of_decide_eq_false hcmp.symm))))
            clear hcmp
            go_wp2
            go_ret2
            rw [HV1.out]
            exact ⟨rfl, (Below.refl _ _).drew.trans HBB.out⟩
          · have HV1 := Lib.hid (HA.out.1 HCZ.out (of_decide_eq_true hcmp.symm))
            clear hcmp
            go_wp2
            go_ret2
            rw [fstP_some HV1.out.1, HV1.out.2]
            exact ⟨rfl, (Below.refl _ _).drew.trans HBB.out⟩
set_option maxHeartbeats 4000000 in
theorem first_2 (s : ByteArray) (w : World) (hs : s.size ≤ 1000000000000000) (hp : 0 < s.size) (hlo : 192 ≤ (bts s).getD 0 0) (hhi : (bts s).getD 0 0 < 224) :
    Calls Try.prog 32 #[.string s] w fun e w' => e = .returned (.tuple #[.int .i32 (fstP (bts s)).1, .int .i64 (fstP (bts s)).2]) ∧ Below w.heap.size w w' := by
  have KL := Lib.hid (klass_2 hlo hhi)
  have hne : s.toList.isEmpty = false := by rw [isEmpty_bts]; exact decide_eq_false (by omega)
  have hb0 : s[0].toNat = (bts s).getD 0 0 := (bts_get s 0 hp).symm
  have LT := Lib.hid (bts_lt s)
  have LEN := Lib.hid (bts_length s)
  have A1 := Lib.hid (show (bts s).getD 0 0 - 192 = accL (bts s) 192 1 from rfl)
  generalize hB : (bts s).getD 0 0 = b at *
  have HB0 := Lib.hid hB
  clear hB
  have i1 : (192 : Int) ≤ (b : Int) := by omega
  have i2 : (b : Int) < 224 := by omega
  have g128 : ¬ (b : Int) < 128 := by omega
  have g192 : ¬ (b : Int) < 192 := by omega
  have l240 : (b : Int) < 240 := by omega
  go_enter Try.func32, Try.ntmps32
  by_cases hsh : s.size < 2
  · have HV0 := Lib.hid (fstP_none (fst_short LT.out (k := 2) (o := 192) (by rw [HB0.out]; exact KL.out) (by rw [LEN.out]; exact hsh)))
    go_wp2
    go_ret2
    rw [HV0.out]
    exact ⟨rfl, Below.refl _ _⟩
  · go_wp2
    go_loopw [4, 6] (fun nv iv wr => ∃ (i N : Nat), 1 ≤ i ∧ i ≤ 2 ∧ iv = .int .i64 (i : Int) ∧ nv = .int .i64 (N : Int) ∧ N = accL (bts s) 192 i ∧ N < 128 * 64 ^ (i - 1) ∧ wr = w) (fun _ iv _ => 4 - (intOf iv).toNat)
    case atStart => exact ⟨1, b - 192, by omega, by omega, rfl, by congr 1 <;> omega, A1.out, by simp; omega, rfl⟩
    case round =>
      obtain ⟨i, N, hi1, hi2, rfl, rfl, hN0, hN1, rfl⟩ := hrel
      have HN := Lib.hid hN0
      have hN2 : N < 33554432 := Nat.lt_of_lt_of_le hN1 (by
        have : (64 : Nat) ^ (i - 1) ≤ 64 ^ 3 := Nat.pow_le_pow_right (by omega) (by omega)
        omega)
      have HN1 := Lib.hid hN1
      clear hN0 hN1
      by_cases hik : i < 2
      · have hil : i < s.size := by omega
        have hbi : s[i].toNat = (bts s).getD i 0 := (bts_get s i hil).symm
        have hd256 : (bts s).getD i 0 < 256 := by rw [← hbi]; exact s[i].toNat_lt
        have HST := Lib.hid (show accL (bts s) 192 (i + 1) = accL (bts s) 192 i * 64 + ((bts s).getD i 0 - 128) by
          obtain ⟨i0, rfl⟩ : ∃ i0, i = i0 + 1 := ⟨i - 1, by omega⟩
          rfl)
        generalize hD : (bts s).getD i 0 = d at *
        have HD := Lib.hid hD
        clear hD
        by_cases hd1 : d < 128
        · have HV0 := Lib.hid (fstP_none (fst_break LT.out (k := 2) (o := 192) (j := i) (by rw [HB0.out]; exact KL.out) (by omega) hik (by rw [HD.out]; exact .inl hd1)))
          have j1 : (d : Int) < 128 := by omega
          go_wp2
          go_ret2
          rw [HV0.out]
          exact ⟨rfl, Below.refl _ _⟩
        · have j1 : ¬ (d : Int) < 128 := by omega
          by_cases hd2 : 191 < d
          · have HV0 := Lib.hid (fstP_none (fst_break LT.out (k := 2) (o := 192) (j := i) (by rw [HB0.out]; exact KL.out) (by omega) hik (by rw [HD.out]; exact .inr hd2)))
            have j2 : (191 : Int) < (d : Int) := by omega
            go_wp2
            go_ret2
            rw [HV0.out]
            exact ⟨rfl, Below.refl _ _⟩
          · have j2 : ¬ (191 : Int) < (d : Int) := by omega
            go_wp2
            go_roundw
            case rel =>
              refine ⟨i + 1, N * 64 + (d - 128), by omega, by omega, by go_num, by congr 1; omega, by rw [HST.out, ← HN.out], ?_, trivial⟩
              obtain ⟨i0, rfl⟩ : ∃ i0, i = i0 + 1 := ⟨i - 1, by omega⟩
              have e := HN1.out
              simp only [Nat.add_sub_cancel] at e ⊢
              rw [Nat.pow_succ]
              omega
            case measure => simp [intOf]; omega
      · obtain rfl : i = 2 := by omega
        have HA := Lib.hid (fst_all LT.out (k := 2) (o := 192) (by rw [HB0.out]; exact KL.out) (by omega))
        rw [← HN.out] at HA
        have hnr : N < 2147483648 := by omega
        rcases hz : isC N with _ | _
        · have HV0 := Lib.hid (fstP_none (HA.out.2 (.inl hz)))
          have HZ := Lib.hid (show isZ (N : Int) = false by rw [isZ_nat]; exact hz)
          clear hz
          go_wp2
          have hw : IntKind.i32.wrap (N : Int) = (N : Int) := IntWalk.i32_in _ (by omega)
          refine wp_region_held_drew (S := (fun _ => True)) (by kernel_rfl) (trivial) (fun hHeld => ?_)
          refine' take_at 0 (v := _) rfl (by kernel_rfl) (by kernel_rfl) (by kernel_rfl) (fun _ _ _ h => h) rfl ?y36 hHeld ?r36
          case y36 =>
            intro w hSw
            try dsimp only at hSw
            go_simp
            try with_reducible rfl
          try simp only [Act.put, List.setIfInBounds_toArray, List.set_cons_zero, List.set_cons_succ]
          refine' take_at 1 (v := _) rfl (by kernel_rfl) (by kernel_rfl) (by kernel_rfl) (fun _ _ _ h => h) rfl ?y37 hHeld ?r37
          case y37 =>
            intro w hSw
            try dsimp only at hSw
            go_simp
            try with_reducible rfl
          try simp only [Act.put, List.setIfInBounds_toArray, List.set_cons_zero, List.set_cons_succ]
          refine step_at 2 (by kernel_rfl) rfl rfl (fun K hK => ?_)
          go_simp
          refine (refScalar_c (N : Int) _).mono ?_
          rintro r w1 ⟨rfl, rfl⟩
          rw [HZ.out]
          have hS : True := trivial
          clear hHeld
          go_wp2_with fail
          refine hK.out _ _ hS (fun hHeld => ?_)
          clear hK K hS
          try simp only [Act.put, List.setIfInBounds_toArray, List.set_cons_zero, List.set_cons_succ]
          refine' take_at 3 (v := _) rfl (by kernel_rfl) (by kernel_rfl) (by kernel_rfl) (fun _ _ _ h => h) rfl ?y38 hHeld ?r38
          case y38 =>
            intro w hSw
            try dsimp only at hSw
            go_simp
            try with_reducible rfl
          try simp only [Act.put, List.setIfInBounds_toArray, List.set_cons_zero, List.set_cons_succ]
          refine' take_at 4 (v := _) rfl (by kernel_rfl) (by kernel_rfl) (by kernel_rfl) (fun _ _ _ h => h) rfl ?y39 hHeld ?r39
          case y39 =>
            intro w hSw
            try dsimp only at hSw
            go_simp
            try with_reducible rfl
          try simp only [Act.put, List.setIfInBounds_toArray, List.set_cons_zero, List.set_cons_succ]
          refine skip_at 5 rfl (by kernel_rfl) (by kernel_rfl) (by kernel_rfl) (fun _ _ _ h => h) rfl hHeld ?_
          try simp only [Act.put, List.setIfInBounds_toArray, List.set_cons_zero, List.set_cons_succ]
          refine skip_at 6 rfl (by kernel_rfl) (by kernel_rfl) (by kernel_rfl) (fun _ _ _ h => h) rfl hHeld ?_
          try simp only [Act.put, List.setIfInBounds_toArray, List.set_cons_zero, List.set_cons_succ]
          refine skip_at 7 rfl (by kernel_rfl) (by kernel_rfl) (by kernel_rfl) (fun _ _ _ h => h) rfl hHeld ?_
          try simp only [Act.put, List.setIfInBounds_toArray, List.set_cons_zero, List.set_cons_succ]
          refine skip_at 8 rfl (by kernel_rfl) (by kernel_rfl) (by kernel_rfl) (fun _ _ _ h => h) rfl hHeld ?_
          try simp only [Act.put, List.setIfInBounds_toArray, List.set_cons_zero, List.set_cons_succ]
          refine skip_at 9 rfl (by kernel_rfl) (by kernel_rfl) (by kernel_rfl) (fun _ _ _ h => h) rfl hHeld ?_
          try simp only [Act.put, List.setIfInBounds_toArray, List.set_cons_zero, List.set_cons_succ]
          refine skip_at 10 rfl (by kernel_rfl) (by kernel_rfl) (by kernel_rfl) (fun _ _ _ h => h) rfl hHeld ?_
          try simp only [Act.put, List.setIfInBounds_toArray, List.set_cons_zero, List.set_cons_succ]
          refine skip_at 11 rfl (by kernel_rfl) (by kernel_rfl) (by kernel_rfl) (fun _ _ _ h => h) rfl hHeld ?_
          try simp only [Act.put, List.setIfInBounds_toArray, List.set_cons_zero, List.set_cons_succ]
          refine skip_at 12 rfl (by kernel_rfl) (by kernel_rfl) (by kernel_rfl) (fun _ _ _ h => h) rfl hHeld ?_
          try simp only [Act.put, List.setIfInBounds_toArray, List.set_cons_zero, List.set_cons_succ]
          refine' take_at 13 (v := _) rfl (by kernel_rfl) (by kernel_rfl) (by kernel_rfl) (fun _ _ _ h => h) rfl ?y48 hHeld ?r48
          case y48 =>
            intro w hSw
            try dsimp only at hSw
            go_simp
            try with_reducible rfl
          try simp only [Act.put, List.setIfInBounds_toArray, List.set_cons_zero, List.set_cons_succ]
          refine wpAnyH_done (by kernel_rfl) ?_ _
          clear hHeld
          go_wp2
          go_ret2
          rw [HV0.out]
          exact ⟨rfl, (Below.refl _ _).drew⟩
        · have HZ := Lib.hid (show isZ (N : Int) = true by rw [isZ_nat]; exact hz)
          have HCZ := Lib.hid hz
          clear hz
          have hlk : 2 ≤ s.size := by omega
          go_wp2
          have hw : IntKind.i32.wrap (N : Int) = (N : Int) := IntWalk.i32_in _ (by omega)
          refine wp_region_held_drew (S := (fun _ => True)) (by kernel_rfl) (trivial) (fun hHeld => ?_)
          refine' take_at 0 (v := _) rfl (by kernel_rfl) (by kernel_rfl) (by kernel_rfl) (fun _ _ _ h => h) rfl ?y25 hHeld ?r25
          case y25 =>
            intro w hSw
            try dsimp only at hSw
            go_simp
            try with_reducible rfl
          try simp only [Act.put, List.setIfInBounds_toArray, List.set_cons_zero, List.set_cons_succ]
          refine' take_at 1 (v := _) rfl (by kernel_rfl) (by kernel_rfl) (by kernel_rfl) (fun _ _ _ h => h) rfl ?y26 hHeld ?r26
          case y26 =>
            intro w hSw
            try dsimp only at hSw
            go_simp
            try with_reducible rfl
          try simp only [Act.put, List.setIfInBounds_toArray, List.set_cons_zero, List.set_cons_succ]
          refine step_at 2 (by kernel_rfl) rfl rfl (fun K hK => ?_)
          go_simp
          refine (refScalar_c (N : Int) _).mono ?_
          rintro r w1 ⟨rfl, rfl⟩
          rw [HZ.out]
          have hS : True := trivial
          clear hHeld
          go_wp2_with fail
          refine hK.out _ _ hS (fun hHeld => ?_)
          clear hK K hS
          try simp only [Act.put, List.setIfInBounds_toArray, List.set_cons_zero, List.set_cons_succ]
          refine' take_at 3 (v := _) rfl (by kernel_rfl) (by kernel_rfl) (by kernel_rfl) (fun _ _ _ h => h) rfl ?y27 hHeld ?r27
          case y27 =>
            intro w hSw
            try dsimp only at hSw
            go_simp
            try with_reducible rfl
          try simp only [Act.put, List.setIfInBounds_toArray, List.set_cons_zero, List.set_cons_succ]
          refine' take_at 4 (v := _) rfl (by kernel_rfl) (by kernel_rfl) (by kernel_rfl) (fun _ _ _ h => h) rfl ?y28 hHeld ?r28
          case y28 =>
            intro w hSw
            try dsimp only at hSw
            go_simp
            try with_reducible rfl
          try simp only [Act.put, List.setIfInBounds_toArray, List.set_cons_zero, List.set_cons_succ]
          refine' take_at 5 (v := _) rfl (by kernel_rfl) (by kernel_rfl) (by kernel_rfl) (fun _ _ _ h => h) rfl ?y29 hHeld ?r29
          case y29 =>
            intro w hSw
            try dsimp only at hSw
            go_simp
            try with_reducible rfl
          try simp only [Act.put, List.setIfInBounds_toArray, List.set_cons_zero, List.set_cons_succ]
          refine' take_at 6 (v := _) rfl (by kernel_rfl) (by kernel_rfl) (by kernel_rfl) (fun _ _ _ h => h) rfl ?y30 hHeld ?r30
          case y30 =>
            intro w hSw
            try dsimp only at hSw
            go_simp
            try with_reducible rfl
          try simp only [Act.put, List.setIfInBounds_toArray, List.set_cons_zero, List.set_cons_succ]
          refine' take_at 9 (v := _) rfl (by kernel_rfl) (by kernel_rfl) (by kernel_rfl) (fun _ _ _ h => h) rfl ?y31 hHeld ?r31
          case y31 =>
            intro w hSw
            try dsimp only at hSw
            go_simp
            try with_reducible rfl
          try simp only [Act.put, List.setIfInBounds_toArray, List.set_cons_zero, List.set_cons_succ]
          refine' take_at 10 (v := _) rfl (by kernel_rfl) (by kernel_rfl) (by kernel_rfl) (fun _ _ _ h => h) rfl ?y32 hHeld ?r32
          case y32 =>
            intro w hSw
            try dsimp only at hSw
            go_simp
            try with_reducible rfl
          try simp only [Act.put, List.setIfInBounds_toArray, List.set_cons_zero, List.set_cons_succ]
          refine' take_at 11 (v := _) rfl (by kernel_rfl) (by kernel_rfl) (by kernel_rfl) (fun _ _ _ h => h) rfl ?y33 hHeld ?r33
          case y33 =>
            intro w hSw
            try dsimp only at hSw
            go_simp
            try with_reducible rfl
          try simp only [Act.put, List.setIfInBounds_toArray, List.set_cons_zero, List.set_cons_succ]
          refine step_at 7 (by kernel_rfl) rfl rfl (fun K hK => ?_)
          go_simp
          refine (refBytes_c N _ HCZ.out).mono ?_
          rintro r w1 ⟨AB, mB, kB, rfl, hoB, hmB, hbB⟩
          have hcv := conv_own_stz hoB (encN_lt HCZ.out)
          have HBB := Lib.hid hbB
          clear hoB hmB hbB
          have hS : True := trivial
          clear hHeld
          go_wp2_with fail
          refine hK.out _ _ hS (fun hHeld => ?_)
          clear hK K hS
          try simp only [Act.put, List.setIfInBounds_toArray, List.set_cons_zero, List.set_cons_succ]
          refine step_at 8 (by kernel_rfl) rfl rfl (fun K hK => ?_)
          go_simp
          refine hK.out _ _ hHeld (fun hHeld => ?_)
          clear hK K
          try simp only [Act.put, List.setIfInBounds_toArray, List.set_cons_zero, List.set_cons_succ]
          refine' take_at 12 (v := _) rfl (by kernel_rfl) (by kernel_rfl) (by kernel_rfl) (fun _ _ _ h => h) rfl ?y34 hHeld ?r34
          case y34 =>
            intro w hSw
            try dsimp only at hSw
            go_simp
            try with_reducible rfl
          try simp only [Act.put, List.setIfInBounds_toArray, List.set_cons_zero, List.set_cons_succ]
          refine' take_at 13 (v := _) rfl (by kernel_rfl) (by kernel_rfl) (by kernel_rfl) (fun _ _ _ h => h) rfl ?y35 hHeld ?r35
          case y35 =>
            intro w hSw
            try dsimp only at hSw
            go_simp
            try with_reducible rfl
          try simp only [Act.put, List.setIfInBounds_toArray, List.set_cons_zero, List.set_cons_succ]
          refine wpAnyH_done (by kernel_rfl) ?_ _
          clear hHeld
          have hcmp : ((stz (encN N)).toList == (s.extract 0 2).toList) = decide (encN N = (bts s).take 2) := by
            rw [toList_beq, bts_stz (encN_lt HCZ.out), bts_upto]
          generalize ((stz (encN N)).toList == (s.extract 0 2).toList) = B at hcmp ⊢
          rcases B with _ | _
          · have HV1 := Lib.hid (fstP_none (HA.out.2 (.inr (of_decide_eq_false hcmp.symm))))
            clear hcmp
            go_wp2
            go_ret2
            rw [HV1.out]
            exact ⟨rfl, (Below.refl _ _).drew.trans HBB.out⟩
          · have HV1 := Lib.hid (HA.out.1 HCZ.out (of_decide_eq_true hcmp.symm))
            clear hcmp
            go_wp2
            go_ret2
            rw [fstP_some HV1.out.1, HV1.out.2]
            exact ⟨rfl, (Below.refl _ _).drew.trans HBB.out⟩
set_option maxHeartbeats 4000000 in
theorem first_3 (s : ByteArray) (w : World) (hs : s.size ≤ 1000000000000000) (hp : 0 < s.size) (hlo : 224 ≤ (bts s).getD 0 0) (hhi : (bts s).getD 0 0 < 240) :
    Calls Try.prog 32 #[.string s] w fun e w' => e = .returned (.tuple #[.int .i32 (fstP (bts s)).1, .int .i64 (fstP (bts s)).2]) ∧ Below w.heap.size w w' := by
  have KL := Lib.hid (klass_3 hlo hhi)
  have hne : s.toList.isEmpty = false := by rw [isEmpty_bts]; exact decide_eq_false (by omega)
  have hb0 : s[0].toNat = (bts s).getD 0 0 := (bts_get s 0 hp).symm
  have LT := Lib.hid (bts_lt s)
  have LEN := Lib.hid (bts_length s)
  have A1 := Lib.hid (show (bts s).getD 0 0 - 224 = accL (bts s) 224 1 from rfl)
  generalize hB : (bts s).getD 0 0 = b at *
  have HB0 := Lib.hid hB
  clear hB
  have i1 : (224 : Int) ≤ (b : Int) := by omega
  have i2 : (b : Int) < 240 := by omega
  have g128 : ¬ (b : Int) < 128 := by omega
  have g192 : ¬ (b : Int) < 192 := by omega
  have g224 : ¬ (b : Int) < 224 := by omega
  have h192 : (192 : Int) ≤ (b : Int) := by omega
  go_enter Try.func32, Try.ntmps32
  by_cases hsh : s.size < 3
  · have HV0 := Lib.hid (fstP_none (fst_short LT.out (k := 3) (o := 224) (by rw [HB0.out]; exact KL.out) (by rw [LEN.out]; exact hsh)))
    go_wp2
    go_ret2
    rw [HV0.out]
    exact ⟨rfl, Below.refl _ _⟩
  · go_wp2
    go_loopw [4, 6] (fun nv iv wr => ∃ (i N : Nat), 1 ≤ i ∧ i ≤ 3 ∧ iv = .int .i64 (i : Int) ∧ nv = .int .i64 (N : Int) ∧ N = accL (bts s) 224 i ∧ N < 128 * 64 ^ (i - 1) ∧ wr = w) (fun _ iv _ => 4 - (intOf iv).toNat)
    case atStart => exact ⟨1, b - 224, by omega, by omega, rfl, by congr 1 <;> omega, A1.out, by simp; omega, rfl⟩
    case round =>
      obtain ⟨i, N, hi1, hi2, rfl, rfl, hN0, hN1, rfl⟩ := hrel
      have HN := Lib.hid hN0
      have hN2 : N < 33554432 := Nat.lt_of_lt_of_le hN1 (by
        have : (64 : Nat) ^ (i - 1) ≤ 64 ^ 3 := Nat.pow_le_pow_right (by omega) (by omega)
        omega)
      have HN1 := Lib.hid hN1
      clear hN0 hN1
      by_cases hik : i < 3
      · have hil : i < s.size := by omega
        have hbi : s[i].toNat = (bts s).getD i 0 := (bts_get s i hil).symm
        have hd256 : (bts s).getD i 0 < 256 := by rw [← hbi]; exact s[i].toNat_lt
        have HST := Lib.hid (show accL (bts s) 224 (i + 1) = accL (bts s) 224 i * 64 + ((bts s).getD i 0 - 128) by
          obtain ⟨i0, rfl⟩ : ∃ i0, i = i0 + 1 := ⟨i - 1, by omega⟩
          rfl)
        generalize hD : (bts s).getD i 0 = d at *
        have HD := Lib.hid hD
        clear hD
        by_cases hd1 : d < 128
        · have HV0 := Lib.hid (fstP_none (fst_break LT.out (k := 3) (o := 224) (j := i) (by rw [HB0.out]; exact KL.out) (by omega) hik (by rw [HD.out]; exact .inl hd1)))
          have j1 : (d : Int) < 128 := by omega
          go_wp2
          go_ret2
          rw [HV0.out]
          exact ⟨rfl, Below.refl _ _⟩
        · have j1 : ¬ (d : Int) < 128 := by omega
          by_cases hd2 : 191 < d
          · have HV0 := Lib.hid (fstP_none (fst_break LT.out (k := 3) (o := 224) (j := i) (by rw [HB0.out]; exact KL.out) (by omega) hik (by rw [HD.out]; exact .inr hd2)))
            have j2 : (191 : Int) < (d : Int) := by omega
            go_wp2
            go_ret2
            rw [HV0.out]
            exact ⟨rfl, Below.refl _ _⟩
          · have j2 : ¬ (191 : Int) < (d : Int) := by omega
            go_wp2
            go_roundw
            case rel =>
              refine ⟨i + 1, N * 64 + (d - 128), by omega, by omega, by go_num, by congr 1; omega, by rw [HST.out, ← HN.out], ?_, trivial⟩
              obtain ⟨i0, rfl⟩ : ∃ i0, i = i0 + 1 := ⟨i - 1, by omega⟩
              have e := HN1.out
              simp only [Nat.add_sub_cancel] at e ⊢
              rw [Nat.pow_succ]
              omega
            case measure => simp [intOf]; omega
      · obtain rfl : i = 3 := by omega
        have HA := Lib.hid (fst_all LT.out (k := 3) (o := 224) (by rw [HB0.out]; exact KL.out) (by omega))
        rw [← HN.out] at HA
        have hnr : N < 2147483648 := by omega
        rcases hz : isC N with _ | _
        · have HV0 := Lib.hid (fstP_none (HA.out.2 (.inl hz)))
          have HZ := Lib.hid (show isZ (N : Int) = false by rw [isZ_nat]; exact hz)
          clear hz
          go_wp2
          have hw : IntKind.i32.wrap (N : Int) = (N : Int) := IntWalk.i32_in _ (by omega)
          refine wp_region_held_drew (S := (fun _ => True)) (by kernel_rfl) (trivial) (fun hHeld => ?_)
          refine' take_at 0 (v := _) rfl (by kernel_rfl) (by kernel_rfl) (by kernel_rfl) (fun _ _ _ h => h) rfl ?y60 hHeld ?r60
          case y60 =>
            intro w hSw
            try dsimp only at hSw
            go_simp
            try with_reducible rfl
          try simp only [Act.put, List.setIfInBounds_toArray, List.set_cons_zero, List.set_cons_succ]
          refine' take_at 1 (v := _) rfl (by kernel_rfl) (by kernel_rfl) (by kernel_rfl) (fun _ _ _ h => h) rfl ?y61 hHeld ?r61
          case y61 =>
            intro w hSw
            try dsimp only at hSw
            go_simp
            try with_reducible rfl
          try simp only [Act.put, List.setIfInBounds_toArray, List.set_cons_zero, List.set_cons_succ]
          refine step_at 2 (by kernel_rfl) rfl rfl (fun K hK => ?_)
          go_simp
          refine (refScalar_c (N : Int) _).mono ?_
          rintro r w1 ⟨rfl, rfl⟩
          rw [HZ.out]
          have hS : True := trivial
          clear hHeld
          go_wp2_with fail
          refine hK.out _ _ hS (fun hHeld => ?_)
          clear hK K hS
          try simp only [Act.put, List.setIfInBounds_toArray, List.set_cons_zero, List.set_cons_succ]
          refine' take_at 3 (v := _) rfl (by kernel_rfl) (by kernel_rfl) (by kernel_rfl) (fun _ _ _ h => h) rfl ?y62 hHeld ?r62
          case y62 =>
            intro w hSw
            try dsimp only at hSw
            go_simp
            try with_reducible rfl
          try simp only [Act.put, List.setIfInBounds_toArray, List.set_cons_zero, List.set_cons_succ]
          refine' take_at 4 (v := _) rfl (by kernel_rfl) (by kernel_rfl) (by kernel_rfl) (fun _ _ _ h => h) rfl ?y63 hHeld ?r63
          case y63 =>
            intro w hSw
            try dsimp only at hSw
            go_simp
            try with_reducible rfl
          try simp only [Act.put, List.setIfInBounds_toArray, List.set_cons_zero, List.set_cons_succ]
          refine skip_at 5 rfl (by kernel_rfl) (by kernel_rfl) (by kernel_rfl) (fun _ _ _ h => h) rfl hHeld ?_
          try simp only [Act.put, List.setIfInBounds_toArray, List.set_cons_zero, List.set_cons_succ]
          refine skip_at 6 rfl (by kernel_rfl) (by kernel_rfl) (by kernel_rfl) (fun _ _ _ h => h) rfl hHeld ?_
          try simp only [Act.put, List.setIfInBounds_toArray, List.set_cons_zero, List.set_cons_succ]
          refine skip_at 7 rfl (by kernel_rfl) (by kernel_rfl) (by kernel_rfl) (fun _ _ _ h => h) rfl hHeld ?_
          try simp only [Act.put, List.setIfInBounds_toArray, List.set_cons_zero, List.set_cons_succ]
          refine skip_at 8 rfl (by kernel_rfl) (by kernel_rfl) (by kernel_rfl) (fun _ _ _ h => h) rfl hHeld ?_
          try simp only [Act.put, List.setIfInBounds_toArray, List.set_cons_zero, List.set_cons_succ]
          refine skip_at 9 rfl (by kernel_rfl) (by kernel_rfl) (by kernel_rfl) (fun _ _ _ h => h) rfl hHeld ?_
          try simp only [Act.put, List.setIfInBounds_toArray, List.set_cons_zero, List.set_cons_succ]
          refine skip_at 10 rfl (by kernel_rfl) (by kernel_rfl) (by kernel_rfl) (fun _ _ _ h => h) rfl hHeld ?_
          try simp only [Act.put, List.setIfInBounds_toArray, List.set_cons_zero, List.set_cons_succ]
          refine skip_at 11 rfl (by kernel_rfl) (by kernel_rfl) (by kernel_rfl) (fun _ _ _ h => h) rfl hHeld ?_
          try simp only [Act.put, List.setIfInBounds_toArray, List.set_cons_zero, List.set_cons_succ]
          refine skip_at 12 rfl (by kernel_rfl) (by kernel_rfl) (by kernel_rfl) (fun _ _ _ h => h) rfl hHeld ?_
          try simp only [Act.put, List.setIfInBounds_toArray, List.set_cons_zero, List.set_cons_succ]
          refine' take_at 13 (v := _) rfl (by kernel_rfl) (by kernel_rfl) (by kernel_rfl) (fun _ _ _ h => h) rfl ?y72 hHeld ?r72
          case y72 =>
            intro w hSw
            try dsimp only at hSw
            go_simp
            try with_reducible rfl
          try simp only [Act.put, List.setIfInBounds_toArray, List.set_cons_zero, List.set_cons_succ]
          refine wpAnyH_done (by kernel_rfl) ?_ _
          clear hHeld
          go_wp2
          go_ret2
          rw [HV0.out]
          exact ⟨rfl, (Below.refl _ _).drew⟩
        · have HZ := Lib.hid (show isZ (N : Int) = true by rw [isZ_nat]; exact hz)
          have HCZ := Lib.hid hz
          clear hz
          have hlk : 3 ≤ s.size := by omega
          go_wp2
          have hw : IntKind.i32.wrap (N : Int) = (N : Int) := IntWalk.i32_in _ (by omega)
          refine wp_region_held_drew (S := (fun _ => True)) (by kernel_rfl) (trivial) (fun hHeld => ?_)
          refine' take_at 0 (v := _) rfl (by kernel_rfl) (by kernel_rfl) (by kernel_rfl) (fun _ _ _ h => h) rfl ?y49 hHeld ?r49
          case y49 =>
            intro w hSw
            try dsimp only at hSw
            go_simp
            try with_reducible rfl
          try simp only [Act.put, List.setIfInBounds_toArray, List.set_cons_zero, List.set_cons_succ]
          refine' take_at 1 (v := _) rfl (by kernel_rfl) (by kernel_rfl) (by kernel_rfl) (fun _ _ _ h => h) rfl ?y50 hHeld ?r50
          case y50 =>
            intro w hSw
            try dsimp only at hSw
            go_simp
            try with_reducible rfl
          try simp only [Act.put, List.setIfInBounds_toArray, List.set_cons_zero, List.set_cons_succ]
          refine step_at 2 (by kernel_rfl) rfl rfl (fun K hK => ?_)
          go_simp
          refine (refScalar_c (N : Int) _).mono ?_
          rintro r w1 ⟨rfl, rfl⟩
          rw [HZ.out]
          have hS : True := trivial
          clear hHeld
          go_wp2_with fail
          refine hK.out _ _ hS (fun hHeld => ?_)
          clear hK K hS
          try simp only [Act.put, List.setIfInBounds_toArray, List.set_cons_zero, List.set_cons_succ]
          refine' take_at 3 (v := _) rfl (by kernel_rfl) (by kernel_rfl) (by kernel_rfl) (fun _ _ _ h => h) rfl ?y51 hHeld ?r51
          case y51 =>
            intro w hSw
            try dsimp only at hSw
            go_simp
            try with_reducible rfl
          try simp only [Act.put, List.setIfInBounds_toArray, List.set_cons_zero, List.set_cons_succ]
          refine' take_at 4 (v := _) rfl (by kernel_rfl) (by kernel_rfl) (by kernel_rfl) (fun _ _ _ h => h) rfl ?y52 hHeld ?r52
          case y52 =>
            intro w hSw
            try dsimp only at hSw
            go_simp
            try with_reducible rfl
          try simp only [Act.put, List.setIfInBounds_toArray, List.set_cons_zero, List.set_cons_succ]
          refine' take_at 5 (v := _) rfl (by kernel_rfl) (by kernel_rfl) (by kernel_rfl) (fun _ _ _ h => h) rfl ?y53 hHeld ?r53
          case y53 =>
            intro w hSw
            try dsimp only at hSw
            go_simp
            try with_reducible rfl
          try simp only [Act.put, List.setIfInBounds_toArray, List.set_cons_zero, List.set_cons_succ]
          refine' take_at 6 (v := _) rfl (by kernel_rfl) (by kernel_rfl) (by kernel_rfl) (fun _ _ _ h => h) rfl ?y54 hHeld ?r54
          case y54 =>
            intro w hSw
            try dsimp only at hSw
            go_simp
            try with_reducible rfl
          try simp only [Act.put, List.setIfInBounds_toArray, List.set_cons_zero, List.set_cons_succ]
          refine' take_at 9 (v := _) rfl (by kernel_rfl) (by kernel_rfl) (by kernel_rfl) (fun _ _ _ h => h) rfl ?y55 hHeld ?r55
          case y55 =>
            intro w hSw
            try dsimp only at hSw
            go_simp
            try with_reducible rfl
          try simp only [Act.put, List.setIfInBounds_toArray, List.set_cons_zero, List.set_cons_succ]
          refine' take_at 10 (v := _) rfl (by kernel_rfl) (by kernel_rfl) (by kernel_rfl) (fun _ _ _ h => h) rfl ?y56 hHeld ?r56
          case y56 =>
            intro w hSw
            try dsimp only at hSw
            go_simp
            try with_reducible rfl
          try simp only [Act.put, List.setIfInBounds_toArray, List.set_cons_zero, List.set_cons_succ]
          refine' take_at 11 (v := _) rfl (by kernel_rfl) (by kernel_rfl) (by kernel_rfl) (fun _ _ _ h => h) rfl ?y57 hHeld ?r57
          case y57 =>
            intro w hSw
            try dsimp only at hSw
            go_simp
            try with_reducible rfl
          try simp only [Act.put, List.setIfInBounds_toArray, List.set_cons_zero, List.set_cons_succ]
          refine step_at 7 (by kernel_rfl) rfl rfl (fun K hK => ?_)
          go_simp
          refine (refBytes_c N _ HCZ.out).mono ?_
          rintro r w1 ⟨AB, mB, kB, rfl, hoB, hmB, hbB⟩
          have hcv := conv_own_stz hoB (encN_lt HCZ.out)
          have HBB := Lib.hid hbB
          clear hoB hmB hbB
          have hS : True := trivial
          clear hHeld
          go_wp2_with fail
          refine hK.out _ _ hS (fun hHeld => ?_)
          clear hK K hS
          try simp only [Act.put, List.setIfInBounds_toArray, List.set_cons_zero, List.set_cons_succ]
          refine step_at 8 (by kernel_rfl) rfl rfl (fun K hK => ?_)
          go_simp
          refine hK.out _ _ hHeld (fun hHeld => ?_)
          clear hK K
          try simp only [Act.put, List.setIfInBounds_toArray, List.set_cons_zero, List.set_cons_succ]
          refine' take_at 12 (v := _) rfl (by kernel_rfl) (by kernel_rfl) (by kernel_rfl) (fun _ _ _ h => h) rfl ?y58 hHeld ?r58
          case y58 =>
            intro w hSw
            try dsimp only at hSw
            go_simp
            try with_reducible rfl
          try simp only [Act.put, List.setIfInBounds_toArray, List.set_cons_zero, List.set_cons_succ]
          refine' take_at 13 (v := _) rfl (by kernel_rfl) (by kernel_rfl) (by kernel_rfl) (fun _ _ _ h => h) rfl ?y59 hHeld ?r59
          case y59 =>
            intro w hSw
            try dsimp only at hSw
            go_simp
            try with_reducible rfl
          try simp only [Act.put, List.setIfInBounds_toArray, List.set_cons_zero, List.set_cons_succ]
          refine wpAnyH_done (by kernel_rfl) ?_ _
          clear hHeld
          have hcmp : ((stz (encN N)).toList == (s.extract 0 3).toList) = decide (encN N = (bts s).take 3) := by
            rw [toList_beq, bts_stz (encN_lt HCZ.out), bts_upto]
          generalize ((stz (encN N)).toList == (s.extract 0 3).toList) = B at hcmp ⊢
          rcases B with _ | _
          · have HV1 := Lib.hid (fstP_none (HA.out.2 (.inr (of_decide_eq_false hcmp.symm))))
            clear hcmp
            go_wp2
            go_ret2
            rw [HV1.out]
            exact ⟨rfl, (Below.refl _ _).drew.trans HBB.out⟩
          · have HV1 := Lib.hid (HA.out.1 HCZ.out (of_decide_eq_true hcmp.symm))
            clear hcmp
            go_wp2
            go_ret2
            rw [fstP_some HV1.out.1, HV1.out.2]
            exact ⟨rfl, (Below.refl _ _).drew.trans HBB.out⟩
set_option maxHeartbeats 4000000 in
theorem first_4 (s : ByteArray) (w : World) (hs : s.size ≤ 1000000000000000) (hp : 0 < s.size) (hlo : 240 ≤ (bts s).getD 0 0) (hhi : (bts s).getD 0 0 < 248) :
    Calls Try.prog 32 #[.string s] w fun e w' => e = .returned (.tuple #[.int .i32 (fstP (bts s)).1, .int .i64 (fstP (bts s)).2]) ∧ Below w.heap.size w w' := by
  have KL := Lib.hid (klass_4 hlo hhi)
  have hne : s.toList.isEmpty = false := by rw [isEmpty_bts]; exact decide_eq_false (by omega)
  have hb0 : s[0].toNat = (bts s).getD 0 0 := (bts_get s 0 hp).symm
  have LT := Lib.hid (bts_lt s)
  have LEN := Lib.hid (bts_length s)
  have A1 := Lib.hid (show (bts s).getD 0 0 - 240 = accL (bts s) 240 1 from rfl)
  generalize hB : (bts s).getD 0 0 = b at *
  have HB0 := Lib.hid hB
  clear hB
  have i1 : (240 : Int) ≤ (b : Int) := by omega
  have i2 : (b : Int) < 248 := by omega
  have g128 : ¬ (b : Int) < 128 := by omega
  have g192 : ¬ (b : Int) < 192 := by omega
  have g224 : ¬ (b : Int) < 224 := by omega
  have g240 : ¬ (b : Int) < 240 := by omega
  have h192 : (192 : Int) ≤ (b : Int) := by omega
  have h224 : (224 : Int) ≤ (b : Int) := by omega
  go_enter Try.func32, Try.ntmps32
  by_cases hsh : s.size < 4
  · have HV0 := Lib.hid (fstP_none (fst_short LT.out (k := 4) (o := 240) (by rw [HB0.out]; exact KL.out) (by rw [LEN.out]; exact hsh)))
    go_wp2
    go_ret2
    rw [HV0.out]
    exact ⟨rfl, Below.refl _ _⟩
  · go_wp2
    go_loopw [4, 6] (fun nv iv wr => ∃ (i N : Nat), 1 ≤ i ∧ i ≤ 4 ∧ iv = .int .i64 (i : Int) ∧ nv = .int .i64 (N : Int) ∧ N = accL (bts s) 240 i ∧ N < 128 * 64 ^ (i - 1) ∧ wr = w) (fun _ iv _ => 4 - (intOf iv).toNat)
    case atStart => exact ⟨1, b - 240, by omega, by omega, rfl, by congr 1 <;> omega, A1.out, by simp; omega, rfl⟩
    case round =>
      obtain ⟨i, N, hi1, hi2, rfl, rfl, hN0, hN1, rfl⟩ := hrel
      have HN := Lib.hid hN0
      have hN2 : N < 33554432 := Nat.lt_of_lt_of_le hN1 (by
        have : (64 : Nat) ^ (i - 1) ≤ 64 ^ 3 := Nat.pow_le_pow_right (by omega) (by omega)
        omega)
      have HN1 := Lib.hid hN1
      clear hN0 hN1
      by_cases hik : i < 4
      · have hil : i < s.size := by omega
        have hbi : s[i].toNat = (bts s).getD i 0 := (bts_get s i hil).symm
        have hd256 : (bts s).getD i 0 < 256 := by rw [← hbi]; exact s[i].toNat_lt
        have HST := Lib.hid (show accL (bts s) 240 (i + 1) = accL (bts s) 240 i * 64 + ((bts s).getD i 0 - 128) by
          obtain ⟨i0, rfl⟩ : ∃ i0, i = i0 + 1 := ⟨i - 1, by omega⟩
          rfl)
        generalize hD : (bts s).getD i 0 = d at *
        have HD := Lib.hid hD
        clear hD
        by_cases hd1 : d < 128
        · have HV0 := Lib.hid (fstP_none (fst_break LT.out (k := 4) (o := 240) (j := i) (by rw [HB0.out]; exact KL.out) (by omega) hik (by rw [HD.out]; exact .inl hd1)))
          have j1 : (d : Int) < 128 := by omega
          go_wp2
          go_ret2
          rw [HV0.out]
          exact ⟨rfl, Below.refl _ _⟩
        · have j1 : ¬ (d : Int) < 128 := by omega
          by_cases hd2 : 191 < d
          · have HV0 := Lib.hid (fstP_none (fst_break LT.out (k := 4) (o := 240) (j := i) (by rw [HB0.out]; exact KL.out) (by omega) hik (by rw [HD.out]; exact .inr hd2)))
            have j2 : (191 : Int) < (d : Int) := by omega
            go_wp2
            go_ret2
            rw [HV0.out]
            exact ⟨rfl, Below.refl _ _⟩
          · have j2 : ¬ (191 : Int) < (d : Int) := by omega
            go_wp2
            go_roundw
            case rel =>
              refine ⟨i + 1, N * 64 + (d - 128), by omega, by omega, by go_num, by congr 1; omega, by rw [HST.out, ← HN.out], ?_, trivial⟩
              obtain ⟨i0, rfl⟩ : ∃ i0, i = i0 + 1 := ⟨i - 1, by omega⟩
              have e := HN1.out
              simp only [Nat.add_sub_cancel] at e ⊢
              rw [Nat.pow_succ]
              omega
            case measure => simp [intOf]; omega
      · obtain rfl : i = 4 := by omega
        have HA := Lib.hid (fst_all LT.out (k := 4) (o := 240) (by rw [HB0.out]; exact KL.out) (by omega))
        rw [← HN.out] at HA
        have hnr : N < 2147483648 := by omega
        rcases hz : isC N with _ | _
        · have HV0 := Lib.hid (fstP_none (HA.out.2 (.inl hz)))
          have HZ := Lib.hid (show isZ (N : Int) = false by rw [isZ_nat]; exact hz)
          clear hz
          go_wp2
          have hw : IntKind.i32.wrap (N : Int) = (N : Int) := IntWalk.i32_in _ (by omega)
          refine wp_region_held_drew (S := (fun _ => True)) (by kernel_rfl) (trivial) (fun hHeld => ?_)
          refine' take_at 0 (v := _) rfl (by kernel_rfl) (by kernel_rfl) (by kernel_rfl) (fun _ _ _ h => h) rfl ?y84 hHeld ?r84
          case y84 =>
            intro w hSw
            try dsimp only at hSw
            go_simp
            try with_reducible rfl
          try simp only [Act.put, List.setIfInBounds_toArray, List.set_cons_zero, List.set_cons_succ]
          refine' take_at 1 (v := _) rfl (by kernel_rfl) (by kernel_rfl) (by kernel_rfl) (fun _ _ _ h => h) rfl ?y85 hHeld ?r85
          case y85 =>
            intro w hSw
            try dsimp only at hSw
            go_simp
            try with_reducible rfl
          try simp only [Act.put, List.setIfInBounds_toArray, List.set_cons_zero, List.set_cons_succ]
          refine step_at 2 (by kernel_rfl) rfl rfl (fun K hK => ?_)
          go_simp
          refine (refScalar_c (N : Int) _).mono ?_
          rintro r w1 ⟨rfl, rfl⟩
          rw [HZ.out]
          have hS : True := trivial
          clear hHeld
          go_wp2_with fail
          refine hK.out _ _ hS (fun hHeld => ?_)
          clear hK K hS
          try simp only [Act.put, List.setIfInBounds_toArray, List.set_cons_zero, List.set_cons_succ]
          refine' take_at 3 (v := _) rfl (by kernel_rfl) (by kernel_rfl) (by kernel_rfl) (fun _ _ _ h => h) rfl ?y86 hHeld ?r86
          case y86 =>
            intro w hSw
            try dsimp only at hSw
            go_simp
            try with_reducible rfl
          try simp only [Act.put, List.setIfInBounds_toArray, List.set_cons_zero, List.set_cons_succ]
          refine' take_at 4 (v := _) rfl (by kernel_rfl) (by kernel_rfl) (by kernel_rfl) (fun _ _ _ h => h) rfl ?y87 hHeld ?r87
          case y87 =>
            intro w hSw
            try dsimp only at hSw
            go_simp
            try with_reducible rfl
          try simp only [Act.put, List.setIfInBounds_toArray, List.set_cons_zero, List.set_cons_succ]
          refine skip_at 5 rfl (by kernel_rfl) (by kernel_rfl) (by kernel_rfl) (fun _ _ _ h => h) rfl hHeld ?_
          try simp only [Act.put, List.setIfInBounds_toArray, List.set_cons_zero, List.set_cons_succ]
          refine skip_at 6 rfl (by kernel_rfl) (by kernel_rfl) (by kernel_rfl) (fun _ _ _ h => h) rfl hHeld ?_
          try simp only [Act.put, List.setIfInBounds_toArray, List.set_cons_zero, List.set_cons_succ]
          refine skip_at 7 rfl (by kernel_rfl) (by kernel_rfl) (by kernel_rfl) (fun _ _ _ h => h) rfl hHeld ?_
          try simp only [Act.put, List.setIfInBounds_toArray, List.set_cons_zero, List.set_cons_succ]
          refine skip_at 8 rfl (by kernel_rfl) (by kernel_rfl) (by kernel_rfl) (fun _ _ _ h => h) rfl hHeld ?_
          try simp only [Act.put, List.setIfInBounds_toArray, List.set_cons_zero, List.set_cons_succ]
          refine skip_at 9 rfl (by kernel_rfl) (by kernel_rfl) (by kernel_rfl) (fun _ _ _ h => h) rfl hHeld ?_
          try simp only [Act.put, List.setIfInBounds_toArray, List.set_cons_zero, List.set_cons_succ]
          refine skip_at 10 rfl (by kernel_rfl) (by kernel_rfl) (by kernel_rfl) (fun _ _ _ h => h) rfl hHeld ?_
          try simp only [Act.put, List.setIfInBounds_toArray, List.set_cons_zero, List.set_cons_succ]
          refine skip_at 11 rfl (by kernel_rfl) (by kernel_rfl) (by kernel_rfl) (fun _ _ _ h => h) rfl hHeld ?_
          try simp only [Act.put, List.setIfInBounds_toArray, List.set_cons_zero, List.set_cons_succ]
          refine skip_at 12 rfl (by kernel_rfl) (by kernel_rfl) (by kernel_rfl) (fun _ _ _ h => h) rfl hHeld ?_
          try simp only [Act.put, List.setIfInBounds_toArray, List.set_cons_zero, List.set_cons_succ]
          refine' take_at 13 (v := _) rfl (by kernel_rfl) (by kernel_rfl) (by kernel_rfl) (fun _ _ _ h => h) rfl ?y96 hHeld ?r96
          case y96 =>
            intro w hSw
            try dsimp only at hSw
            go_simp
            try with_reducible rfl
          try simp only [Act.put, List.setIfInBounds_toArray, List.set_cons_zero, List.set_cons_succ]
          refine wpAnyH_done (by kernel_rfl) ?_ _
          clear hHeld
          go_wp2
          go_ret2
          rw [HV0.out]
          exact ⟨rfl, (Below.refl _ _).drew⟩
        · have HZ := Lib.hid (show isZ (N : Int) = true by rw [isZ_nat]; exact hz)
          have HCZ := Lib.hid hz
          clear hz
          have hlk : 4 ≤ s.size := by omega
          go_wp2
          have hw : IntKind.i32.wrap (N : Int) = (N : Int) := IntWalk.i32_in _ (by omega)
          refine wp_region_held_drew (S := (fun _ => True)) (by kernel_rfl) (trivial) (fun hHeld => ?_)
          refine' take_at 0 (v := _) rfl (by kernel_rfl) (by kernel_rfl) (by kernel_rfl) (fun _ _ _ h => h) rfl ?y73 hHeld ?r73
          case y73 =>
            intro w hSw
            try dsimp only at hSw
            go_simp
            try with_reducible rfl
          try simp only [Act.put, List.setIfInBounds_toArray, List.set_cons_zero, List.set_cons_succ]
          refine' take_at 1 (v := _) rfl (by kernel_rfl) (by kernel_rfl) (by kernel_rfl) (fun _ _ _ h => h) rfl ?y74 hHeld ?r74
          case y74 =>
            intro w hSw
            try dsimp only at hSw
            go_simp
            try with_reducible rfl
          try simp only [Act.put, List.setIfInBounds_toArray, List.set_cons_zero, List.set_cons_succ]
          refine step_at 2 (by kernel_rfl) rfl rfl (fun K hK => ?_)
          go_simp
          refine (refScalar_c (N : Int) _).mono ?_
          rintro r w1 ⟨rfl, rfl⟩
          rw [HZ.out]
          have hS : True := trivial
          clear hHeld
          go_wp2_with fail
          refine hK.out _ _ hS (fun hHeld => ?_)
          clear hK K hS
          try simp only [Act.put, List.setIfInBounds_toArray, List.set_cons_zero, List.set_cons_succ]
          refine' take_at 3 (v := _) rfl (by kernel_rfl) (by kernel_rfl) (by kernel_rfl) (fun _ _ _ h => h) rfl ?y75 hHeld ?r75
          case y75 =>
            intro w hSw
            try dsimp only at hSw
            go_simp
            try with_reducible rfl
          try simp only [Act.put, List.setIfInBounds_toArray, List.set_cons_zero, List.set_cons_succ]
          refine' take_at 4 (v := _) rfl (by kernel_rfl) (by kernel_rfl) (by kernel_rfl) (fun _ _ _ h => h) rfl ?y76 hHeld ?r76
          case y76 =>
            intro w hSw
            try dsimp only at hSw
            go_simp
            try with_reducible rfl
          try simp only [Act.put, List.setIfInBounds_toArray, List.set_cons_zero, List.set_cons_succ]
          refine' take_at 5 (v := _) rfl (by kernel_rfl) (by kernel_rfl) (by kernel_rfl) (fun _ _ _ h => h) rfl ?y77 hHeld ?r77
          case y77 =>
            intro w hSw
            try dsimp only at hSw
            go_simp
            try with_reducible rfl
          try simp only [Act.put, List.setIfInBounds_toArray, List.set_cons_zero, List.set_cons_succ]
          refine' take_at 6 (v := _) rfl (by kernel_rfl) (by kernel_rfl) (by kernel_rfl) (fun _ _ _ h => h) rfl ?y78 hHeld ?r78
          case y78 =>
            intro w hSw
            try dsimp only at hSw
            go_simp
            try with_reducible rfl
          try simp only [Act.put, List.setIfInBounds_toArray, List.set_cons_zero, List.set_cons_succ]
          refine' take_at 9 (v := _) rfl (by kernel_rfl) (by kernel_rfl) (by kernel_rfl) (fun _ _ _ h => h) rfl ?y79 hHeld ?r79
          case y79 =>
            intro w hSw
            try dsimp only at hSw
            go_simp
            try with_reducible rfl
          try simp only [Act.put, List.setIfInBounds_toArray, List.set_cons_zero, List.set_cons_succ]
          refine' take_at 10 (v := _) rfl (by kernel_rfl) (by kernel_rfl) (by kernel_rfl) (fun _ _ _ h => h) rfl ?y80 hHeld ?r80
          case y80 =>
            intro w hSw
            try dsimp only at hSw
            go_simp
            try with_reducible rfl
          try simp only [Act.put, List.setIfInBounds_toArray, List.set_cons_zero, List.set_cons_succ]
          refine' take_at 11 (v := _) rfl (by kernel_rfl) (by kernel_rfl) (by kernel_rfl) (fun _ _ _ h => h) rfl ?y81 hHeld ?r81
          case y81 =>
            intro w hSw
            try dsimp only at hSw
            go_simp
            try with_reducible rfl
          try simp only [Act.put, List.setIfInBounds_toArray, List.set_cons_zero, List.set_cons_succ]
          refine step_at 7 (by kernel_rfl) rfl rfl (fun K hK => ?_)
          go_simp
          refine (refBytes_c N _ HCZ.out).mono ?_
          rintro r w1 ⟨AB, mB, kB, rfl, hoB, hmB, hbB⟩
          have hcv := conv_own_stz hoB (encN_lt HCZ.out)
          have HBB := Lib.hid hbB
          clear hoB hmB hbB
          have hS : True := trivial
          clear hHeld
          go_wp2_with fail
          refine hK.out _ _ hS (fun hHeld => ?_)
          clear hK K hS
          try simp only [Act.put, List.setIfInBounds_toArray, List.set_cons_zero, List.set_cons_succ]
          refine step_at 8 (by kernel_rfl) rfl rfl (fun K hK => ?_)
          go_simp
          refine hK.out _ _ hHeld (fun hHeld => ?_)
          clear hK K
          try simp only [Act.put, List.setIfInBounds_toArray, List.set_cons_zero, List.set_cons_succ]
          refine' take_at 12 (v := _) rfl (by kernel_rfl) (by kernel_rfl) (by kernel_rfl) (fun _ _ _ h => h) rfl ?y82 hHeld ?r82
          case y82 =>
            intro w hSw
            try dsimp only at hSw
            go_simp
            try with_reducible rfl
          try simp only [Act.put, List.setIfInBounds_toArray, List.set_cons_zero, List.set_cons_succ]
          refine' take_at 13 (v := _) rfl (by kernel_rfl) (by kernel_rfl) (by kernel_rfl) (fun _ _ _ h => h) rfl ?y83 hHeld ?r83
          case y83 =>
            intro w hSw
            try dsimp only at hSw
            go_simp
            try with_reducible rfl
          try simp only [Act.put, List.setIfInBounds_toArray, List.set_cons_zero, List.set_cons_succ]
          refine wpAnyH_done (by kernel_rfl) ?_ _
          clear hHeld
          have hcmp : ((stz (encN N)).toList == (s.extract 0 4).toList) = decide (encN N = (bts s).take 4) := by
            rw [toList_beq, bts_stz (encN_lt HCZ.out), bts_upto]
          generalize ((stz (encN N)).toList == (s.extract 0 4).toList) = B at hcmp ⊢
          rcases B with _ | _
          · have HV1 := Lib.hid (fstP_none (HA.out.2 (.inr (of_decide_eq_false hcmp.symm))))
            clear hcmp
            go_wp2
            go_ret2
            rw [HV1.out]
            exact ⟨rfl, (Below.refl _ _).drew.trans HBB.out⟩
          · have HV1 := Lib.hid (HA.out.1 HCZ.out (of_decide_eq_true hcmp.symm))
            clear hcmp
            go_wp2
            go_ret2
            rw [fstP_some HV1.out.1, HV1.out.2]
            exact ⟨rfl, (Below.refl _ _).drew.trans HBB.out⟩
end Go.Proofs.Ytljgpdghpkpffaa
