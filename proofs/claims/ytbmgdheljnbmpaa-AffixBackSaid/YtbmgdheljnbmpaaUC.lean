/-
  UC: the contracts of utf, and of the document's answers.
-/
import Derived.Test.YtbmgdheljnbmpaaUB
set_option maxRecDepth 100000
namespace Go.Proofs.Ytbmgdheljnbmpaa
open Go.RowKit
set_option maxHeartbeats 400000 in
theorem utfScalar_c (r : Int) (w : World) : Calls Try.prog 33 #[.int .i32 r] w fun e w' => e = .returned (.bool (isZ r)) ∧ w = w' := by
  by_cases h0 : 0 ≤ r
  · by_cases h1 : r ≤ 1114111
    · by_cases h2 : r < 55296
      · have hz : isZ r = true := isZ_iff.2 (by omega)
        rw [hz]
        go_enter Try.func33, Try.ntmps33
        go_wp2
        go_ret
        exact ⟨rfl, rfl⟩
      · by_cases h3 : 57343 < r
        · have hz : isZ r = true := isZ_iff.2 (by omega)
          rw [hz]
          go_enter Try.func33, Try.ntmps33
          go_wp2
          go_ret
          exact ⟨rfl, rfl⟩
        · have hz : isZ r = false := by rw [Bool.eq_false_iff]; intro h; have := isZ_iff.1 h; omega
          rw [hz]
          go_enter Try.func33, Try.ntmps33
          go_wp2
          go_ret
          exact ⟨rfl, rfl⟩
    · have hz : isZ r = false := by rw [Bool.eq_false_iff]; intro h; have := isZ_iff.1 h; omega
      rw [hz]
      go_enter Try.func33, Try.ntmps33
      go_wp2
      go_ret
      exact ⟨rfl, rfl⟩
  · have hz : isZ r = false := by rw [Bool.eq_false_iff]; intro h; have := isZ_iff.1 h; omega
    rw [hz]
    go_enter Try.func33, Try.ntmps33
    go_wp2
    go_ret
    exact ⟨rfl, rfl⟩
set_option maxHeartbeats 400000 in
theorem hasPrefix0_c (s t : ByteArray) (w : World) (_hs : s.size ≤ 1000000000000000) (_ht : t.size ≤ 1000000000000000) : Calls Try.prog 40 #[.string s, .string t] w fun e w' => e = .returned (.bool (pfx t s)) ∧ w = w' := by
  by_cases h1 : t.size ≤ s.size
  · have hp : pfx t s = ((s.extract 0 t.size).toList == t.toList) := by
      rw [toList_beq, bts_upto, pfx, decide_eq_true h1, Bool.true_and]
    rw [hp]
    clear hp
    go_enter Try.func40, Try.ntmps40
    go_wp2
    go_ret
    exact ⟨rfl, rfl⟩
  · have hp : pfx t s = false := by rw [pfx, decide_eq_false h1, Bool.false_and]
    rw [hp]
    go_enter Try.func40, Try.ntmps40
    go_wp2
    go_ret
    exact ⟨rfl, rfl⟩
set_option maxHeartbeats 400000 in
theorem hasPrefix_c (s t : ByteArray) (w : World) (hs : s.size ≤ 1000000000000000) (ht : t.size ≤ 1000000000000000) : Calls Try.prog 38 #[.string s, .string t] w fun e w' => e = .returned (.bool (pfx t s)) ∧ w = w' := by
  go_enter Try.func38, Try.ntmps38
  go_wp2_with fail
  refine (hasPrefix0_c s t w hs ht).mono ?_
  rintro e w' ⟨rfl, rfl⟩
  go_wp2
  go_ret
  exact ⟨rfl, rfl⟩
set_option maxHeartbeats 1000000 in
theorem utfBad_c (s : ByteArray) (w : World) (hs : s.size ≤ 1000000000000000) : Calls Try.prog 30 #[.string s] w fun e w' => e = .returned (.int .i64 (badZ (bts s))) ∧ Below w.heap.size w w' := by
  generalize hg : w.heap.size = g at *
  have Hg := Lib.hid hg
  clear hg
  have B0 := Lib.hid (show Below g w w by rw [← Hg.out]; exact Below.refl _ _)
  go_enter Try.func30, Try.ntmps30
  go_wp2
  rw [Hg.out]
  go_loopw [] (fun wr => ∃ (p : Nat) (cs : List Nat), Upto s p cs ∧ wr.heap[g]? = some (.stringIter s p) ∧ Below g w wr) (fun wr => s.size - wr.iterPos g)
  case atStart =>
    refine ⟨0, [], Upto.zero s, ?_, B0.out.alloc (by rw [Hg.out]; exact Nat.le_refl _) _⟩
    rw [← Hg.out]; exact heap_alloc_new w _
  case round =>
    obtain ⟨p, cs, hu0, hit0, hb0⟩ := hrel
    have HU := Lib.hid hu0
    have HIT := Lib.hid hit0
    have HB := Lib.hid hb0
    have hple := hu0.1
    have hpos0 : wr.iterPos g = p := by simp [World.iterPos, hit0]
    have HPOS := Lib.hid hpos0
    clear hu0 hit0 hb0 hpos0
    by_cases hlt : p < s.size
    · have hnx := Lib.run_next_any_at (P := Try.prog) wr g s p 0 HIT.out hlt
      have hez : (s.extract p s.size).size ≤ 1000000000000000 := by rw [ByteArray.size_extract]; omega
      rcases hf : fstN ((bts s).drop p) with _ | c
      · rw [decode_none hlt hf] at hnx
        have HF := Lib.hid hf
        have HP := Lib.hid (stand_none (s := s.extract p s.size) (by rw [bts_from]; exact hf))
        clear hf
        go_wp2_with fail
        refine (hasPrefix_c (s.extract p s.size) standS _ hez (by decide)).mono ?_
        rw [HP.out]
        rintro e w' ⟨rfl, rfl⟩
        go_wp2
        go_ret
        refine ⟨?_, Lib.below_iterAt HB.out (Nat.le_refl _) s _⟩
        rw [(HU.out.here hlt HF.out).2.2]; rfl
      · obtain ⟨hc, hu1, hd, hw1⟩ := HU.out.step hf
        rw [hd] at hnx
        have HU1 := Lib.hid hu1
        have HBQ := Lib.hid (Lib.below_iterAt HB.out (Nat.le_refl g) s (p + (encN c).length))
        have HITQ := Lib.hid (Lib.iterAt_heap wr g s p (p + (encN c).length) HIT.out)
        have hple1 := hu1.1
        have hcle := isC_le hc
        clear hu1 hd
        by_cases h5 : c = 65533
        · subst h5
          have HP := Lib.hid (stand_some (s := s.extract p s.size) (by rw [bts_from]; exact hf))
          clear hf
          go_wp2_with fail
          refine (hasPrefix_c (s.extract p s.size) standS _ hez (by decide)).mono ?_
          rw [HP.out]
          rintro e w' ⟨rfl, rfl⟩
          go_wp2
          go_roundw
          case rel => exact ⟨_, _, HU1.out, HITQ.out, HBQ.out⟩
          case measure =>
            have e1 : (wr.iterAt g s (p + (encN 65533).length)).iterPos g = p + (encN 65533).length := by simp [World.iterPos, HITQ.out]
            rw [HPOS.out, e1]; omega
        · clear hf
          have h5i : ((c : Int) == 65533) = false := by simp; omega
          go_wp2
          go_roundw
          case rel => exact ⟨_, _, HU1.out, HITQ.out, HBQ.out⟩
          case measure =>
            have e1 : (wr.iterAt g s (p + (encN c).length)).iterPos g = p + (encN c).length := by simp [World.iterPos, HITQ.out]
            rw [HPOS.out, e1]; omega
    · have hnx := Lib.run_next_end_at (P := Try.prog) wr g s p 0 HIT.out hlt
      go_wp2
      go_ret
      refine ⟨?_, HB.out⟩
      rw [(HU.out.end_ hlt).2.2]; rfl
/-- The text of runes; none, if one is no code point. -/
def txtZ (zs : List Int) : ByteArray := if zs.all isZ = true then stz (encs (nats zs)) else ⟨#[]⟩
theorem txtZ_ok {zs : List Int} (h : zs.all isZ = true) : txtZ zs = stz (encs (nats zs)) := by simp [txtZ, h]
theorem txtZ_no {zs : List Int} (h : zs.all isZ = false) : txtZ zs = ⟨#[]⟩ := by simp [txtZ, h]
theorem getD_mem {zs : List Int} {k : Nat} (hk : k < zs.length) : zs.getD k 0 ∈ zs := by
  rw [List.getD, List.getElem?_eq_getElem hk]; exact List.getElem_mem hk
theorem all_getD {zs : List Int} (h : ∀ j, j < zs.length → isZ (zs.getD j 0) = true) : zs.all isZ = true := by
  refine List.all_eq_true.2 fun z hz => ?_
  obtain ⟨j, hj, rfl⟩ := List.mem_iff_getElem.1 hz
  have := h j hj
  rwa [List.getD, List.getElem?_eq_getElem hj] at this
theorem all_no {zs : List Int} {k : Nat} (hk : k < zs.length) (h : isZ (zs.getD k 0) = false) : zs.all isZ = false := by
  rcases ha : zs.all isZ with _ | _
  · rfl
  · rw [List.all_eq_true.1 ha _ (getD_mem hk)] at h; cases h
set_option maxHeartbeats 1000000 in
theorem utfText_c (A : Option Addr) (n c : Nat) (zs : List Int) (w : World) (h : Rns w A n zs) : Calls Try.prog 37 #[.slice A n c] w fun e w' =>
    e = .returned (.tuple #[.string (txtZ zs), .bool (zs.all isZ)]) ∧ w = w' := by
  have H := Lib.hid h
  have hn := h.2.1
  have HL := Lib.hid h.len
  clear h
  go_enter Try.func37, Try.ntmps37
  go_wp2
  go_loopw [8] (fun i wr => ∃ k : Nat, k ≤ n ∧ i = .int .i64 (k : Int) ∧ wr = w ∧ ∀ j, j < k → isZ (zs.getD j 0) = true) (fun i _ => n - (intOf i).toNat)
  case atStart => exact ⟨0, Nat.zero_le _, rfl, rfl, fun j hj => absurd hj (by omega)⟩
  case round =>
    obtain ⟨k, hk, rfl, rfl, ha0⟩ := hrel
    have HA := Lib.hid ha0
    clear ha0
    by_cases hlt : k < n
    · obtain ⟨ad, rfl, _, hc, _, _⟩ := H.out.at_ hlt
      have HZ := Lib.hid (show zs.getD k 0 = zs.getD k 0 from rfl)
      generalize hz : zs.getD k 0 = Z at hc HZ
      have HZ2 := Lib.hid hz
      clear hz HZ
      go_wp2_with fail
      refine (utfScalar_c Z _).mono ?_
      rintro e w' ⟨rfl, rfl⟩
      rcases hb : isZ Z with _ | _
      · have HB := Lib.hid hb
        clear hb
        go_wp2
        go_ret2
        have h1 := all_no (zs := zs) (k := k) (by rw [HL.out]; exact hlt) (by rw [HZ2.out]; exact HB.out)
        rw [h1, txtZ_no h1]
        exact ⟨rfl, rfl⟩
      · have HB := Lib.hid hb
        clear hb
        go_wp2
        go_roundw
        case rel =>
          refine ⟨k + 1, by omega, by go_num, trivial, fun j hj => ?_⟩
          rcases Nat.lt_or_ge j k with hjk | hjk
          · exact HA.out j hjk
          · obtain rfl : j = k := by omega
            rw [HZ2.out]; exact HB.out
        case measure => simp [intOf]; omega
    · have hcv := conv_runes (c := c) H.out
      go_wp2
      go_ret2
      have h1 : zs.all isZ = true := all_getD fun j hj => HA.out j (by rw [HL.out] at hj; omega)
      have h2 := runesBytes_enc (allC_nats h1)
      rw [ints_nats h1] at h2
      rw [h1, txtZ_ok h1, ← h2]
      exact ⟨rfl, rfl⟩
set_option maxHeartbeats 400000 in
theorem refScalar_c (r : Int) (w : World) : Calls Try.prog 26 #[.int .i32 r] w fun e w' => e = .returned (.bool (isZ r)) ∧ w = w' := by
  by_cases h0 : 0 ≤ r
  · by_cases h1 : r ≤ 1114111
    · by_cases h2 : r < 55296
      · have hz : isZ r = true := isZ_iff.2 (by omega)
        rw [hz]
        go_enter Try.func26, Try.ntmps26
        go_wp2
        go_ret
        exact ⟨rfl, rfl⟩
      · by_cases h3 : 57343 < r
        · have hz : isZ r = true := isZ_iff.2 (by omega)
          rw [hz]
          go_enter Try.func26, Try.ntmps26
          go_wp2
          go_ret
          exact ⟨rfl, rfl⟩
        · have hz : isZ r = false := by rw [Bool.eq_false_iff]; intro h; have := isZ_iff.1 h; omega
          rw [hz]
          go_enter Try.func26, Try.ntmps26
          go_wp2
          go_ret
          exact ⟨rfl, rfl⟩
    · have hz : isZ r = false := by rw [Bool.eq_false_iff]; intro h; have := isZ_iff.1 h; omega
      rw [hz]
      go_enter Try.func26, Try.ntmps26
      go_wp2
      go_ret
      exact ⟨rfl, rfl⟩
  · have hz : isZ r = false := by rw [Bool.eq_false_iff]; intro h; have := isZ_iff.1 h; omega
    rw [hz]
    go_enter Try.func26, Try.ntmps26
    go_wp2
    go_ret
    exact ⟨rfl, rfl⟩
/-- One, two, three, four bytes, in a new block. -/
theorem own_new {W : World} {base : Nat} (hb : base ≤ W.heap.size) (xs : List Nat) (vs : Array Value) (hv : vs.toList = u8s xs) (n : Nat) (hn : n = xs.length) (hm : n ≤ 1000) :
    (W.alloc (.cells vs 5)).ownsRow base 5 1 (.slice (some ⟨W.heap.size, 0, none⟩) n n) n (u8s xs) := by
  subst hn
  refine ⟨by simp [u8s], .inr ⟨W.heap.size, xs.length, vs, rfl, hb, heap_alloc_new W _, Nat.le_refl _, by unfold maxLen; omega, ?_, ?_⟩⟩
  · have := congrArg List.length hv
    simpa [u8s] using this
  · rw [hv, List.take_of_length_le (by simp [u8s])]
set_option maxHeartbeats 1000000 in
theorem refBytes_c (c : Nat) (w : World) (hc : isC c = true) : Calls Try.prog 29 #[.int .i32 (c : Int)] w fun e w' =>
    ∃ A m k, e = .returned (.slice A m k) ∧ w'.ownsRow w.heap.size 5 1 (.slice A m k) m (u8s (encN c)) ∧ m = (encN c).length ∧ Below w.heap.size w w' := by
  have hl := isC_le hc
  rcases encN_cases c with ⟨h1, he⟩ | ⟨h0, h1, he⟩ | ⟨h0, h1, he⟩ | ⟨h0, he⟩
  · have HE := Lib.hid he
    clear he
    go_enter Try.func29, Try.ntmps29
    go_wp2
    go_ret
    rw [HE.out]
    exact ⟨_, _, _, rfl, own_new (Nat.le_refl _) [c] _ rfl 1 rfl (by omega), rfl, (Below.refl _ _).alloc (Nat.le_refl _) _⟩
  · have HE := Lib.hid he
    have i0 : ¬ (c : Int) < 128 := by omega
    have i1 : (c : Int) < 2048 := by omega
    clear he
    go_enter Try.func29, Try.ntmps29
    go_wp2
    go_ret
    rw [HE.out]
    exact ⟨_, _, _, rfl, own_new (Nat.le_refl _) [192 + c / 64, 128 + c % 64] _ (by simp [u8s]) 2 rfl (by omega), rfl, (Below.refl _ _).alloc (Nat.le_refl _) _⟩
  · have HE := Lib.hid he
    have i0 : ¬ (c : Int) < 128 := by omega
    have i1 : ¬ (c : Int) < 2048 := by omega
    have i2 : (c : Int) < 65536 := by omega
    clear he
    go_enter Try.func29, Try.ntmps29
    go_wp2
    go_ret
    rw [HE.out]
    exact ⟨_, _, _, rfl, own_new (Nat.le_refl _) [224 + c / 4096, 128 + c / 64 % 64, 128 + c % 64] _ (by simp [u8s]) 3 rfl (by omega), rfl, (Below.refl _ _).alloc (Nat.le_refl _) _⟩
  · have HE := Lib.hid he
    have i0 : ¬ (c : Int) < 128 := by omega
    have i1 : ¬ (c : Int) < 2048 := by omega
    have i2 : ¬ (c : Int) < 65536 := by omega
    clear he
    go_enter Try.func29, Try.ntmps29
    go_wp2
    go_ret
    rw [HE.out]
    exact ⟨_, _, _, rfl, own_new (Nat.le_refl _) [240 + c / 262144, 128 + c / 4096 % 64, 128 + c / 64 % 64, 128 + c % 64] _ (by simp [u8s]) 4 rfl (by omega), rfl, (Below.refl _ _).alloc (Nat.le_refl _) _⟩
end Go.Proofs.Ytbmgdheljnbmpaa
