/-
  UH: the contracts of digit.
-/
import Derived.Test.YtfppieafdkdheaaUE
import Derived.Test.YtfppieafdkdheaaUG
import Derived.IntWalk
set_option maxRecDepth 100000
namespace Go.Proofs.Ytfppieafdkdheaa
open Go.RowKit
/-- 'out = append(out, x)' of one byte, out nil or the call's own; what else there is stays. -/
theorem wpList_app_u8k {W w0 : World} {ops : Array Oper} {rest : List Oper} {o : Oper} {a : Act} {Q : Exit → Act → World → Prop} (hgd : o.guard = none) (s x : Operand) (t : TypeId)
    (ho : o.op = .call { callee := .builtin .append, args := #[s, x], argTypes := #[t, t] }) (ht : Try.prog.underlying t = some (.slice 5))
    (base : Nat) (v : Value) (k : Nat) (xs : List Nat) (hs : a.eval s = v) (hown : W.ownsRow base 5 1 v k (u8s xs)) (E : Int)
    (hx : a.eval x = .slice (some ⟨W.heap.size, 0, none⟩) 1 1) (X : Nat) (hE : E = (X : Int)) (hk : k ≤ 100000000000) (hb : Below base w0 W) (hbase : base ≤ W.heap.size)
    (h : ∀ v' w', Hid (w'.ownsRow base 5 1 v' (k + 1) (u8s (xs ++ [X]))) → Hid (Below base w0 w') → Hid (∀ k, k < W.heap.size → v.ownBlock ≠ some k → w'.heap[k]? = W.heap[k]?) → wpList Try.prog ops Q rest (a.put o.dst v') w') :
    wpList Try.prog ops Q (o :: rest) a (W.alloc (.cells #[.int .u8 E] 5)) := by
  obtain ⟨i0, hi, hz0, hz1, hz2⟩ := info_parts u8_info
  subst hE
  refine wpList_append_own _ hgd s x t ho base 5 i0 (.int .u8 0) 1 1 ht hi hz0 hz1 hz2 rfl (by decide) v k _ hs (hown.alloc _) ⟨W.heap.size, 0, none⟩ 1 1 [.int .u8 (X : Int)] hx rfl (cells_one W _ _) ?_ ?_ ?_ ?_ ?_
  · simp [Value.oneCell']
  · unfold maxLen; omega
  · omega
  · simp; omega
  · intro v' w' h1 h2 _
    refine h v' w' ?_ ?_ ?_
    · rw [u8s_append]; exact h1
    · refine (hb.alloc hbase _).grown h2 (by simp; omega) fun j hj => ?_
      exact (hown.lt j hj).1
    · intro k hk hne
      rw [h2.block k (by simp; omega) (fun e => hne e.symm)]
      show (W.heap.push _)[k]? = _
      rw [Array.getElem?_push_lt hk, Array.getElem?_eq_getElem hk]
set_option maxHeartbeats 400000 in
theorem digitGood_c (z : Int) (w : World) (h : -2147483648 ≤ z ∧ z ≤ 2147483647) : Calls Try.prog 10 #[.int .i32 z] w fun e w' => e = .returned (.bool (sysZ z)) ∧ w = w' := by
  go_enter Try.func10, Try.ntmps10
  go_wp2
  go_loopw [4] (fun i wr => ∃ k : Nat, k ≤ 10 ∧ i = .int .i32 (k : Int) ∧ wr = w ∧ ∀ j : Nat, j < k → isZ (z + (j : Int)) = true) (fun i _ => 10 - (intOf i).toNat)
  case atStart => exact ⟨0, by omega, rfl, rfl, fun j hj => absurd hj (by omega)⟩
  case round =>
    obtain ⟨k, hk, rfl, rfl, ha0⟩ := hrel
    by_cases hlt : k < 10
    · have hb : -2147483648 ≤ z + (k : Int) ∧ z + (k : Int) ≤ 2147483647 := by
        rcases Nat.eq_zero_or_pos k with hz | hp
        · subst hz; omega
        · have := isZ_iff.1 (ha0 (k - 1) (by omega)); omega
      have hw : IntKind.i32.wrap (z + (k : Int)) = z + (k : Int) := IntWalk.i32_in _ (by omega)
      have HA := Lib.hid ha0
      clear ha0
      go_wp2_with fail
      refine (utfScalar_c (z + (k : Int)) _).mono ?_
      rintro e w' ⟨rfl, rfl⟩
      rcases hzk : isZ (z + (k : Int)) with _ | _
      · have HN := Lib.hid (sysZ_no hlt hzk)
        clear hzk
        go_wp2
        go_ret
        rw [HN.out]
        exact ⟨rfl, rfl⟩
      · have HY := Lib.hid hzk
        clear hzk
        go_wp2
        go_roundw
        case rel =>
          refine ⟨k + 1, by omega, by go_num, trivial, fun j hj => ?_⟩
          rcases Nat.lt_or_ge j k with hjk | hjk
          · exact HA.out j hjk
          · obtain rfl : j = k := by omega
            exact HY.out
        case measure => simp [intOf]; omega
    · have HS := Lib.hid (sysZ_all (z := z) fun j hj => ha0 j (by omega))
      clear ha0
      obtain rfl : k = 10 := by omega
      go_wp2
      go_ret
      rw [HS.out]
      exact ⟨rfl, rfl⟩
set_option maxHeartbeats 400000 in
theorem digitIs_c (z r : Int) (w : World) (h : -2147483648 ≤ z ∧ z ≤ 2147483647) (h' : -2147483648 ≤ r ∧ r ≤ 2147483647) : Calls Try.prog 11 #[.int .i32 z, .int .i32 r] w fun e w' => e = .returned (.bool (isB z r)) ∧ w = w' := by
  have C := Lib.hid (digitGood_c z w h)
  rcases hs : sysZ z with _ | _
  · have e : isB z r = false := by rw [isB, hs]; rfl
    rw [e]
    rw [hs] at C
    clear hs e
    go_enter Try.func11, Try.ntmps11
    go_wp2_with fail
    refine C.out.mono ?_
    rintro e w' ⟨rfl, rfl⟩
    go_wp2
    go_ret
    exact ⟨rfl, rfl⟩
  · have hz := (sysZ_iff.1 hs).1
    rw [hs] at C
    by_cases h1 : z ≤ r
    · have hw : IntKind.i32.wrap (r - z) = r - z := IntWalk.i32_in _ (by omega)
      by_cases h2 : r < z + 10
      · have e : isB z r = true := by rw [isB, hs, decide_eq_true h1, decide_eq_true h2]; rfl
        have h3 : r - z < 10 := by omega
        rw [e]
        clear hs e
        go_enter Try.func11, Try.ntmps11
        go_wp2_with fail
        refine C.out.mono ?_
        rintro e w' ⟨rfl, rfl⟩
        go_wp2
        go_ret
        exact ⟨rfl, rfl⟩
      · have e : isB z r = false := by rw [isB, hs, decide_eq_false h2, Bool.and_false]; rfl
        have h3 : ¬ r - z < 10 := by omega
        rw [e]
        clear hs e
        go_enter Try.func11, Try.ntmps11
        go_wp2_with fail
        refine C.out.mono ?_
        rintro e w' ⟨rfl, rfl⟩
        go_wp2
        go_ret
        exact ⟨ret_bool (decide_eq_false (by omega)), rfl⟩
    · have e : isB z r = false := by rw [isB, hs, decide_eq_false h1]; rfl
      rw [e]
      clear hs e
      go_enter Try.func11, Try.ntmps11
      go_wp2_with fail
      refine C.out.mono ?_
      rintro e w' ⟨rfl, rfl⟩
      go_wp2
      go_ret
      exact ⟨rfl, rfl⟩
/-- Is, of a system's zero and a code point. -/
theorem digitIs_n (Z c : Nat) (w : World) (hZ : sysZ (Z : Int) = true) (hc : c ≤ 1114111) : Calls Try.prog 11 #[.int .i32 (Z : Int), .int .i32 (c : Int)] w fun e w' => e = .returned (.bool (inS Z c)) ∧ w = w' := by
  have h1 := sysZ_iff.1 hZ
  have h := digitIs_c (Z : Int) (c : Int) w (by omega) (by omega)
  rwa [isB_nat hZ] at h
set_option maxHeartbeats 1000000 in
theorem digitRun_c (Z : Nat) (s : ByteArray) (w : World) (hZ : sysZ (Z : Int) = true) (hs : s.size ≤ 10000000000) : Calls Try.prog 16 #[.int .i32 (Z : Int), .string s] w fun e w' =>
    e = .returned (.int .i64 (runN Z (bts s) : Int)) ∧ Below w.heap.size w w' := by
  generalize hg : w.heap.size = g at *
  have Hg := Lib.hid hg
  clear hg
  have B0 := Lib.hid (show Below g w w by rw [← Hg.out]; exact Below.refl _ _)
  have HZ := Lib.hid hZ
  clear hZ
  go_enter Try.func16, Try.ntmps16
  go_wp2
  rw [Hg.out]
  go_loopw [] (fun wr => ∃ (p : Nat) (cs : List Nat), UptoS Z s p cs ∧ wr.heap[g]? = some (.stringIter s p) ∧ Below g w wr) (fun wr => s.size - wr.iterPos g)
  case atStart =>
    refine ⟨0, [], UptoS.zero Z s, ?_, B0.out.alloc (by rw [Hg.out]; exact Nat.le_refl _) _⟩
    rw [← Hg.out]; exact heap_alloc_new w _
  case round =>
    obtain ⟨p, cs, hu0, hit0, hb0⟩ := hrel
    have HU := Lib.hid hu0
    have HIT := Lib.hid hit0
    have HB := Lib.hid hb0
    have hple := hu0.1.1
    have hpos0 : wr.iterPos g = p := by simp [World.iterPos, hit0]
    have HPOS := Lib.hid hpos0
    clear hu0 hit0 hb0 hpos0
    by_cases hlt : p < s.size
    · have hnx := Lib.run_next_any_at (P := Try.prog) wr g s p 0 HIT.out hlt
      have hez : (s.extract p s.size).size ≤ 1000000000000000 := by rw [ByteArray.size_extract]; omega
      rcases hf : fstN ((bts s).drop p) with _ | c
      · rw [decode_none hlt hf] at hnx
        have HE := Lib.hid (HU.out.stop HZ.out (fun c hc => by rw [hf] at hc; cases hc)).2
        have HP := Lib.hid (stand_none (s := s.extract p s.size) (by rw [bts_from]; exact hf))
        clear hf
        rcases hd : inS Z 65533 with _ | _
        · have HC := Lib.hid (fun W => digitIs_n Z 65533 W HZ.out (by omega))
          rw [hd] at HC
          clear hd
          go_wp2_with fail
          refine (HC.out _).mono ?_
          rintro e w' ⟨rfl, rfl⟩
          go_wp2
          go_ret
          rw [HE.out]
          exact ⟨rfl, Lib.below_iterAt HB.out (Nat.le_refl _) s _⟩
        · have HC := Lib.hid (fun W => digitIs_n Z 65533 W HZ.out (by omega))
          rw [hd] at HC
          clear hd
          go_wp2_with fail
          refine (HC.out _).mono ?_
          rintro e w' ⟨rfl, rfl⟩
          go_wp2_with fail
          refine (hasPrefix_c (s.extract p s.size) standS _ hez (by decide)).mono ?_
          rw [HP.out]
          rintro e w' ⟨rfl, rfl⟩
          go_wp2
          go_ret
          rw [HE.out]
          exact ⟨rfl, Lib.below_iterAt HB.out (Nat.le_refl _) s _⟩
      · obtain ⟨hc, hu1, hd, hw1⟩ := HU.out.1.step hf
        rw [hd] at hnx
        have hple1 := hu1.1
        have hcle := isC_le hc
        have HC := Lib.hid (fun W => digitIs_n Z c W HZ.out hcle)
        clear hu1 hd
        rcases hin : inS Z c with _ | _
        · have HE := Lib.hid (HU.out.stop HZ.out (fun c' hc' => by rw [hf] at hc'; cases hc'; exact hin)).2
          rw [hin] at HC
          clear hf hin
          go_wp2_with fail
          refine (HC.out _).mono ?_
          rintro e w' ⟨rfl, rfl⟩
          go_wp2
          go_ret
          rw [HE.out]
          exact ⟨rfl, Lib.below_iterAt HB.out (Nat.le_refl _) s _⟩
        · have HU1 := Lib.hid (HU.out.step hf hin)
          have HP := Lib.hid (show pfx (stz (encN c)) (s.extract p s.size) = true by
            refine pfx_iff.2 ⟨((bts s).drop p).drop (encN c).length, ?_⟩
            rw [bts_stz (encN_lt hc), bts_from]
            exact (fst_some (bts_drop_lt s p) hf).2.1)
          have hq : (stz (encN c)).size ≤ 1000000000000000 := by rw [stz_size]; have := encN_le c; omega
          have HBQ := Lib.hid (Lib.below_iterAt HB.out (Nat.le_refl g) s (p + (encN c).length))
          have HITQ := Lib.hid (Lib.iterAt_heap wr g s p (p + (encN c).length) HIT.out)
          rw [hin] at HC
          have hcv := encode_enc hc
          clear hf hin
          go_wp2_with fail
          refine (HC.out _).mono ?_
          rintro e w' ⟨rfl, rfl⟩
          go_wp2_with fail
          refine (hasPrefix_c (s.extract p s.size) (stz (encN c)) _ hez hq).mono ?_
          rw [HP.out]
          rintro e w' ⟨rfl, rfl⟩
          go_wp2
          go_roundw
          case rel => exact ⟨_, _, HU1.out, HITQ.out, HBQ.out⟩
          case measure =>
            have e1 : (wr.iterAt g s (p + (encN c).length)).iterPos g = p + (encN c).length := by simp [World.iterPos, HITQ.out]
            rw [HPOS.out, e1]; omega
    · have hnx := Lib.run_next_end_at (P := Try.prog) wr g s p 0 HIT.out hlt
      have HE := Lib.hid (HU.out.end_ HZ.out hlt).2.1
      go_wp2
      go_ret
      rw [HE.out]
      exact ⟨rfl, HB.out⟩
set_option maxHeartbeats 1000000 in
theorem digitGet_c (Z : Nat) (s : ByteArray) (w : World) (hZ : sysZ (Z : Int) = true) (hs : s.size ≤ 10000000000) : Calls Try.prog 14 #[.int .i32 (Z : Int), .string s] w fun e w' =>
    e = .returned (.tuple #[.string (getS Z (bts s)), .bool (getB Z (bts s))]) ∧ Below w.heap.size w w' := by
  by_cases he : s.size = 0
  · have hem : s.toList.isEmpty = true := by rw [isEmpty_bts]; exact decide_eq_true he
    have hn := getS_no (Z := Z) (l := bts s) (by rw [bts_length]; omega)
    have HN := Lib.hid hn
    clear hn
    go_enter Try.func14, Try.ntmps14
    go_wp2
    go_ret2
    rw [HN.out.1, HN.out.2]
    exact ⟨rfl, Below.refl _ _⟩
  have hem : s.toList.isEmpty = false := by rw [isEmpty_bts]; exact decide_eq_false he
  have hrl := runN_le (Z := Z) (bts_lt s)
  rw [bts_length] at hrl
  by_cases hr : runN Z (bts s) < s.size
  · have hri : (runN Z (bts s) : Int) < (s.size : Int) := by omega
    have hn := getS_no (Z := Z) (l := bts s) (by rw [bts_length]; omega)
    have HN := Lib.hid hn
    have HC := Lib.hid (digitRun_c Z s w hZ hs)
    clear hn
    generalize runN Z (bts s) = T at *
    go_enter Try.func14, Try.ntmps14
    go_wp2_with fail
    refine HC.out.mono ?_
    rintro e w1 ⟨rfl, hb⟩
    go_wp2
    go_ret2
    rw [HN.out.1, HN.out.2]
    exact ⟨rfl, hb⟩
  have hrs : runN Z (bts s) = s.size := by omega
  have HF := Lib.hid (full_dgt hrs)
  have HRS := Lib.hid hrs
  have HC := Lib.hid (digitRun_c Z s w hZ hs)
  have HG := Lib.hid (show getS Z (bts s) = stz (low Z (cps (bts s))) ∧ getB Z (bts s) = true by
    have hc : 0 < (bts s).length ∧ runN Z (bts s) = (bts s).length := by rw [bts_length]; omega
    exact ⟨if_pos hc, decide_eq_true hc⟩)
  rw [hrs] at HC
  clear hrs hr hrl
  have HZ := Lib.hid hZ
  have hzr := (sysZ_iff.1 hZ)
  clear hZ
  generalize hg : w.heap.size = g at *
  have Hg := Lib.hid hg
  clear hg
  go_enter Try.func14, Try.ntmps14
  go_wp2_with fail
  refine HC.out.mono ?_
  rintro e w1 ⟨rfl, hb⟩
  have B1 := Lib.hid hb
  have hg1 : g ≤ w1.heap.size := by have := hb.size; have := Hg.out; omega
  clear hb HC
  go_wp2
  generalize hq : w1.heap.size = q at *
  have Hq := Lib.hid hq
  clear hq
  go_loopw [6] (fun v wr => ∃ (p : Nat) (cs : List Nat), UptoS Z s p cs ∧ wr.heap[q]? = some (.stringIter s p) ∧ wr.ownsRow g 5 1 v cs.length (u8s (low Z cs)) ∧ Below g w wr) (fun _ wr => s.size - wr.iterPos q)
  case atStart =>
    refine ⟨0, [], UptoS.zero Z s, ?_, World.ownsRow_nil _ _ _ _, B1.out.alloc (by rw [Hq.out]; exact hg1) _⟩
    rw [← Hq.out]; exact heap_alloc_new w1 _
  case round =>
    obtain ⟨p, cs, hu0, hit0, ho0, hb0⟩ := hrel
    have HU := Lib.hid hu0
    have HIT := Lib.hid hit0
    have HO := Lib.hid ho0
    have HB := Lib.hid hb0
    have hple := hu0.1.1
    have hcl := hu0.1.count
    have hpos0 : wr.iterPos q = p := by simp [World.iterPos, hit0]
    have HPOS := Lib.hid hpos0
    have hgq : q < wr.heap.size := (Array.getElem?_eq_some_iff.1 hit0).1
    clear hu0 hit0 ho0 hb0 hpos0
    by_cases hlt : p < s.size
    · have hnx := Lib.run_next_any_at (P := Try.prog) wr q s p 0 HIT.out hlt
      have hin0 : ∃ c, fstN ((bts s).drop p) = some c ∧ inS Z c = true := by
        by_cases hx : ∃ c, fstN ((bts s).drop p) = some c ∧ inS Z c = true
        · exact hx
        · exfalso
          have h1 := (HU.out.stop HZ.out (fun c hc => by
            rcases hb : inS Z c with _ | _
            · rfl
            · exact absurd ⟨c, hc, hb⟩ hx)).2
          have := HRS.out
          omega
      obtain ⟨c, hf, hin⟩ := hin0
      obtain ⟨hc, hu1, hd, hw1⟩ := HU.out.1.step hf
      rw [hd] at hnx
      have HU1 := Lib.hid (HU.out.step hf hin)
      have hple1 := hu1.1
      have hcle := isC_le hc
      have hci := inS_iff.1 hin
      have HBQ := Lib.hid (Lib.below_iterAt HB.out (show g ≤ q by have := Hq.out; omega) s (p + (encN c).length))
      have HITQ := Lib.hid (Lib.iterAt_heap wr q s p (p + (encN c).length) HIT.out)
      have HOQ := Lib.hid (own_iterAt HO.out HIT.out (p + (encN c).length))
      have hqs : g ≤ (wr.iterAt q s (p + (encN c).length)).heap.size := by rw [Lib.iterAt_size]; omega
      have hqq : q < (wr.iterAt q s (p + (encN c).length)).heap.size := by rw [Lib.iterAt_size]; omega
      have k1 : IntKind.i32.wrap (48 + (c : Int)) = 48 + (c : Int) := IntWalk.i32_in _ (by omega)
      have k2 : IntKind.i32.wrap (48 + (c : Int) - (Z : Int)) = 48 + (c : Int) - (Z : Int) := IntWalk.i32_in _ (by omega)
      have k3 : IntKind.u8.wrap (48 + (c : Int) - (Z : Int)) = 48 + (c : Int) - (Z : Int) := IntWalk.u8_in _ (by omega)
      clear hu1 hd hf hin
      generalize hW : wr.iterAt q s (p + (encN c).length) = W at *
      have HW := Lib.hid hW
      clear hW
      go_wp2_with (at_builtin; go_must (refine wpList_app_u8k rfl (.tmp 24) (.tmp 30) _ rfl Try.underlying31 g u6 cs.length (low Z cs) rfl HOQ.out _ rfl (c - Z + 48) (by omega) (by omega) HBQ.out hqs ?_))
      intro v' w' ho1 hb1 hk1
      go_wp2
      go_roundw
      case rel =>
        refine ⟨_, _, HU1.out, ?_, ?_, hb1.out⟩
        · rw [hk1.out q hqq (own_iter_ne HOQ.out HITQ.out), HITQ.out]
        · rw [low_append, List.length_append]; exact ho1.out
      case measure =>
        have e1 : w'.iterPos q = p + (encN c).length := by simp [World.iterPos, hk1.out q hqq (own_iter_ne HOQ.out HITQ.out), HITQ.out]
        rw [HPOS.out, e1]; omega
    · have hnx := Lib.run_next_end_at (P := Try.prog) wr q s p 0 HIT.out hlt
      have HE := Lib.hid (HU.out.end_ HZ.out hlt).2.2.1
      have hcv := conv_own_stz HO.out (low_lt HU.out.2)
      go_wp2
      go_ret2
      rw [HG.out.1, HG.out.2, HE.out]
      exact ⟨rfl, HB.out⟩
set_option maxHeartbeats 1000000 in
theorem digitPut_c (Z : Nat) (s : ByteArray) (w : World) (hZ : sysZ (Z : Int) = true) (hs : s.size ≤ 10000000000) : Calls Try.prog 12 #[.int .i32 (Z : Int), .string s] w fun e w' =>
    e = .returned (.string (putS Z (bts s))) ∧ Below w.heap.size w w' := by
  have HZ := Lib.hid hZ
  have hzr := (sysZ_iff.1 hZ)
  clear hZ
  generalize hg : w.heap.size = g at *
  have Hg := Lib.hid hg
  clear hg
  have B0 := Lib.hid (show Below g w w by rw [← Hg.out]; exact Below.refl _ _)
  go_enter Try.func12, Try.ntmps12
  go_wp2
  rw [Hg.out]
  go_loopw [5] (fun v wr => ∃ (p : Nat) (cs : List Nat), UptoS 48 s p cs ∧ wr.heap[g]? = some (.stringIter s p) ∧ wr.ownsRow g 21 1 v cs.length (i32s (ints (hi Z cs))) ∧ Below g w wr) (fun _ wr => s.size - wr.iterPos g)
  case atStart =>
    refine ⟨0, [], UptoS.zero 48 s, ?_, World.ownsRow_nil _ _ _ _, B0.out.alloc (by rw [Hg.out]; exact Nat.le_refl _) _⟩
    rw [← Hg.out]; exact heap_alloc_new w _
  case round =>
    obtain ⟨p, cs, hu0, hit0, ho0, hb0⟩ := hrel
    have HU := Lib.hid hu0
    have HIT := Lib.hid hit0
    have HO := Lib.hid ho0
    have HB := Lib.hid hb0
    have hple := hu0.1.1
    have hcl := hu0.1.count
    have hpos0 : wr.iterPos g = p := by simp [World.iterPos, hit0]
    have HPOS := Lib.hid hpos0
    have hgq : g < wr.heap.size := (Array.getElem?_eq_some_iff.1 hit0).1
    clear hu0 hit0 ho0 hb0 hpos0
    by_cases hlt : p < s.size
    · have hnx := Lib.run_next_any_at (P := Try.prog) wr g s p 0 HIT.out hlt
      rcases hf : fstN ((bts s).drop p) with _ | c
      · rw [decode_none hlt hf] at hnx
        have HN := Lib.hid (putS_no (Z := Z) (okL_stop hlt (fun c hc => by rw [hf] at hc; cases hc)))
        have HC := Lib.hid (fun W => digitIs_n 48 65533 W sys48 (by omega))
        rw [show inS 48 65533 = false from rfl] at HC
        clear hf
        go_wp2_with fail
        refine (HC.out _).mono ?_
        rintro e w' ⟨rfl, rfl⟩
        go_wp2
        go_ret
        rw [HN.out]
        exact ⟨rfl, Lib.below_iterAt HB.out (Nat.le_refl _) s _⟩
      · obtain ⟨hc, hu1, hd, hw1⟩ := HU.out.1.step hf
        rw [hd] at hnx
        have hple1 := hu1.1
        have hcle := isC_le hc
        have HC := Lib.hid (fun W => digitIs_n 48 c W sys48 hcle)
        clear hu1 hd
        rcases hin : inS 48 c with _ | _
        · have HN := Lib.hid (putS_no (Z := Z) (okL_stop hlt (fun c' hc' => by rw [hf] at hc'; cases hc'; exact hin)))
          rw [hin] at HC
          clear hf hin
          go_wp2_with fail
          refine (HC.out _).mono ?_
          rintro e w' ⟨rfl, rfl⟩
          go_wp2
          go_ret
          rw [HN.out]
          exact ⟨rfl, Lib.below_iterAt HB.out (Nat.le_refl _) s _⟩
        · have HU1 := Lib.hid (HU.out.step hf hin)
          have hci := inS_iff.1 hin
          have HBQ := Lib.hid (Lib.below_iterAt HB.out (Nat.le_refl g) s (p + (encN c).length))
          have HITQ := Lib.hid (Lib.iterAt_heap wr g s p (p + (encN c).length) HIT.out)
          have HOQ := Lib.hid (own_iterAt HO.out HIT.out (p + (encN c).length))
          have hqs : g ≤ (wr.iterAt g s (p + (encN c).length)).heap.size := by rw [Lib.iterAt_size]; omega
          have hqq : g < (wr.iterAt g s (p + (encN c).length)).heap.size := by rw [Lib.iterAt_size]; omega
          have k1 : IntKind.i32.wrap ((Z : Int) + (c : Int)) = (Z : Int) + (c : Int) := IntWalk.i32_in _ (by omega)
          have k2 : IntKind.i32.wrap ((Z : Int) + (c : Int) - 48) = (Z : Int) + (c : Int) - 48 := IntWalk.i32_in _ (by omega)
          rw [hin] at HC
          clear hf hin
          generalize hW : wr.iterAt g s (p + (encN c).length) = W at *
          have HW := Lib.hid hW
          clear hW
          go_wp2_with fail
          refine (HC.out _).mono ?_
          rintro e w' ⟨rfl, rfl⟩
          go_wp2_with (at_builtin; go_must (refine wpList_app_i32 rfl (.tmp 16) (.tmp 21) _ rfl Try.underlying37 g u5 cs.length _ rfl HOQ.out _ rfl ((Z + (c - 48) : Nat) : Int) (by omega) (by omega) HBQ.out hqs ?_))
          intro v' w' ho1 hb1 hk1
          go_wp2
          go_roundw
          case rel =>
            refine ⟨_, _, HU1.out, ?_, ?_, hb1.out⟩
            · rw [hk1.out g hqq (own_iter_ne HOQ.out HITQ.out), HITQ.out]
            · rw [hi_append, ints_append, List.length_append]; exact ho1.out
          case measure =>
            have e1 : w'.iterPos g = p + (encN c).length := by simp [World.iterPos, hk1.out g hqq (own_iter_ne HOQ.out HITQ.out), HITQ.out]
            rw [HPOS.out, e1]; omega
    · have hnx := Lib.run_next_end_at (P := Try.prog) wr g s p 0 HIT.out hlt
      have hE := HU.out.all48 hlt
      have hal := hi_allC HZ.out (show okL cs = true by rw [← hE.1]; exact hE.2)
      obtain ⟨A, c, hA⟩ := own_form HO.out
      subst hA
      have hR : OwnR wr g A cs.length c (ints (hi Z cs)) := ⟨HO.out, by omega, fun z hz => by have := ints_range hal z hz; omega⟩
      have hcv := conv_runes (c := c) hR.rns
      rw [runesBytes_enc hal] at hcv
      have HV := Lib.hid (show putS Z (bts s) = stz (encs (hi Z cs)) by rw [putS_ok hE.2, hE.1])
      clear hE hal hR
      go_wp2
      go_ret
      rw [HV.out]
      exact ⟨rfl, HB.out⟩
end Go.Proofs.Ytfppieafdkdheaa
