/-
  UC: the contracts of utf, and of the document's answers.
-/
import Derived.Test.YtibmohnpgpbjoaaUB
set_option maxRecDepth 100000
namespace Go.Proofs.Ytibmohnpgpbjoaa
open Go.RowKit
set_option maxHeartbeats 400000 in
theorem utfScalar_c (r : Int) (w : World) : Calls Try.prog 14 #[.int .i32 r] w fun e w' => e = .returned (.bool (isZ r)) ∧ w = w' := by
  by_cases h0 : 0 ≤ r
  · by_cases h1 : r ≤ 1114111
    · by_cases h2 : r < 55296
      · have hz : isZ r = true := isZ_iff.2 (by omega)
        rw [hz]
        go_enter Try.func14, Try.ntmps14
        go_wp2
        go_ret
        exact ⟨rfl, rfl⟩
      · by_cases h3 : 57343 < r
        · have hz : isZ r = true := isZ_iff.2 (by omega)
          rw [hz]
          go_enter Try.func14, Try.ntmps14
          go_wp2
          go_ret
          exact ⟨rfl, rfl⟩
        · have hz : isZ r = false := by rw [Bool.eq_false_iff]; intro h; have := isZ_iff.1 h; omega
          rw [hz]
          go_enter Try.func14, Try.ntmps14
          go_wp2
          go_ret
          exact ⟨rfl, rfl⟩
    · have hz : isZ r = false := by rw [Bool.eq_false_iff]; intro h; have := isZ_iff.1 h; omega
      rw [hz]
      go_enter Try.func14, Try.ntmps14
      go_wp2
      go_ret
      exact ⟨rfl, rfl⟩
  · have hz : isZ r = false := by rw [Bool.eq_false_iff]; intro h; have := isZ_iff.1 h; omega
    rw [hz]
    go_enter Try.func14, Try.ntmps14
    go_wp2
    go_ret
    exact ⟨rfl, rfl⟩
set_option maxHeartbeats 400000 in
theorem hasPrefix0_c (s t : ByteArray) (w : World) (_hs : s.size ≤ 1000000000000000) (_ht : t.size ≤ 1000000000000000) : Calls Try.prog 21 #[.string s, .string t] w fun e w' => e = .returned (.bool (pfx t s)) ∧ w = w' := by
  by_cases h1 : t.size ≤ s.size
  · have hp : pfx t s = ((s.extract 0 t.size).toList == t.toList) := by
      rw [toList_beq, bts_upto, pfx, decide_eq_true h1, Bool.true_and]
    rw [hp]
    clear hp
    go_enter Try.func21, Try.ntmps21
    go_wp2
    go_ret
    exact ⟨rfl, rfl⟩
  · have hp : pfx t s = false := by rw [pfx, decide_eq_false h1, Bool.false_and]
    rw [hp]
    go_enter Try.func21, Try.ntmps21
    go_wp2
    go_ret
    exact ⟨rfl, rfl⟩
set_option maxHeartbeats 400000 in
theorem hasPrefix_c (s t : ByteArray) (w : World) (hs : s.size ≤ 1000000000000000) (ht : t.size ≤ 1000000000000000) : Calls Try.prog 20 #[.string s, .string t] w fun e w' => e = .returned (.bool (pfx t s)) ∧ w = w' := by
  go_enter Try.func20, Try.ntmps20
  go_wp2_with fail
  refine (hasPrefix0_c s t w hs ht).mono ?_
  rintro e w' ⟨rfl, rfl⟩
  go_wp2
  go_ret
  exact ⟨rfl, rfl⟩
set_option maxHeartbeats 1000000 in
theorem utfBad_c (s : ByteArray) (w : World) (hs : s.size ≤ 1000000000000000) : Calls Try.prog 11 #[.string s] w fun e w' => e = .returned (.int .i64 (badZ (bts s))) ∧ Below w.heap.size w w' := by
  generalize hg : w.heap.size = g at *
  have Hg := Lib.hid hg
  clear hg
  have B0 := Lib.hid (show Below g w w by rw [← Hg.out]; exact Below.refl _ _)
  go_enter Try.func11, Try.ntmps11
  go_wp2
  rw [Hg.out]
  go_loopw [] (fun wr => ∃ (p : Nat) (cs : List Nat), Upto s p cs ∧ wr.heap[g]? = some (.stringIter s p) ∧ Below g w wr) (fun wr => s.size - wr.iterPos g)
  case atStart =>
    refine ⟨0, [], Upto.zero s, ?_, B0.out.alloc (by rw [Hg.out]; exact Nat.le_refl _) _⟩
    rw [← Hg.out]; exact heap_alloc_new w _
  case round =>
    obtain ⟨p, cs, hu0, hit0, hb0⟩ := hrel
    have HU := Lib.hid hu0
    have HIT := Lib.hid hit0
    have HB := Lib.hid hb0
    have hple := hu0.1
    have hpos0 : wr.iterPos g = p := by simp [World.iterPos, hit0]
    have HPOS := Lib.hid hpos0
    clear hu0 hit0 hb0 hpos0
    by_cases hlt : p < s.size
    · have hnx := Lib.run_next_any_at (P := Try.prog) wr g s p 0 HIT.out hlt
      have hez : (s.extract p s.size).size ≤ 1000000000000000 := by rw [ByteArray.size_extract]; omega
      rcases hf : fstN ((bts s).drop p) with _ | c
      · rw [decode_none hlt hf] at hnx
        have HF := Lib.hid hf
        have HP := Lib.hid (stand_none (s := s.extract p s.size) (by rw [bts_from]; exact hf))
        clear hf
        go_wp2_with fail
        refine (hasPrefix_c (s.extract p s.size) standS _ hez (by decide)).mono ?_
        rw [HP.out]
        rintro e w' ⟨rfl, rfl⟩
        go_wp2
        go_ret
        refine ⟨?_, Lib.below_iterAt HB.out (Nat.le_refl _) s _⟩
        rw [(HU.out.here hlt HF.out).2.2]; rfl
      · obtain ⟨hc, hu1, hd, hw1⟩ := HU.out.step hf
        rw [hd] at hnx
        have HU1 := Lib.hid hu1
        have HBQ := Lib.hid (Lib.below_iterAt HB.out (Nat.le_refl g) s (p + (encN c).length))
        have HITQ := Lib.hid (Lib.iterAt_heap wr g s p (p + (encN c).length) HIT.out)
        have hple1 := hu1.1
        have hcle := isC_le hc
        clear hu1 hd
        by_cases h5 : c = 65533
        · subst h5
          have HP := Lib.hid (stand_some (s := s.extract p s.size) (by rw [bts_from]; exact hf))
          clear hf
          go_wp2_with fail
          refine (hasPrefix_c (s.extract p s.size) standS _ hez (by decide)).mono ?_
          rw [HP.out]
          rintro e w' ⟨rfl, rfl⟩
          go_wp2
          go_roundw
          case rel => exact ⟨_, _, HU1.out, HITQ.out, HBQ.out⟩
          case measure =>
            have e1 : (wr.iterAt g s (p + (encN 65533).length)).iterPos g = p + (encN 65533).length := by simp [World.iterPos, HITQ.out]
            rw [HPOS.out, e1]; omega
        · clear hf
          have h5i : ((c : Int) == 65533) = false := by simp; omega
          go_wp2
          go_roundw
          case rel => exact ⟨_, _, HU1.out, HITQ.out, HBQ.out⟩
          case measure =>
            have e1 : (wr.iterAt g s (p + (encN c).length)).iterPos g = p + (encN c).length := by simp [World.iterPos, HITQ.out]
            rw [HPOS.out, e1]; omega
    · have hnx := Lib.run_next_end_at (P := Try.prog) wr g s p 0 HIT.out hlt
      go_wp2
      go_ret
      refine ⟨?_, HB.out⟩
      rw [(HU.out.end_ hlt).2.2]; rfl
set_option maxHeartbeats 1000000 in
theorem utfRunes_c (s : ByteArray) (w : World) (hs : s.size ≤ 10000000000) : Calls Try.prog 10 #[.string s] w fun e w' =>
    ∃ A m c, e = .returned (.tuple #[.slice A m c, .bool (rgt (bts s))]) ∧ OwnR w' w.heap.size A m c (ints (pts (bts s))) ∧ Below w.heap.size w w' := by
  generalize hg : w.heap.size = g at *
  have Hg := Lib.hid hg
  clear hg
  go_enter Try.func10, Try.ntmps10
  go_wp2_with fail
  refine (utfBad_c s w (by omega)).mono ?_
  rintro e w1 ⟨rfl, hb⟩
  rw [Hg.out] at hb
  have B1 := Lib.hid hb
  have hg1 : g ≤ w1.heap.size := by have := hb.size; have := Hg.out; omega
  clear hb
  by_cases hr : rst (bts s) = []
  · rw [badZ_right hr]
    have HR := Lib.hid hr
    clear hr
    go_wp2
    generalize hq : w1.heap.size = q at *
    have Hq := Lib.hid hq
    clear hq
    go_loopw [4] (fun v wr => ∃ (p : Nat) (cs : List Nat), Upto s p cs ∧ wr.heap[q]? = some (.stringIter s p) ∧ wr.ownsRow g 21 1 v cs.length (i32s (ints cs)) ∧ Below g w wr) (fun _ wr => s.size - wr.iterPos q)
    case atStart =>
      refine ⟨0, [], Upto.zero s, ?_, World.ownsRow_nil _ _ _ _, B1.out.alloc (by rw [Hq.out]; exact hg1) _⟩
      rw [← Hq.out]; exact heap_alloc_new w1 _
    case round =>
      obtain ⟨p, cs, hu0, hit0, ho0, hb0⟩ := hrel
      have HU := Lib.hid hu0
      have HIT := Lib.hid hit0
      have HO := Lib.hid ho0
      have HB := Lib.hid hb0
      have hple := hu0.1
      have hcl := hu0.count
      have hpos0 : wr.iterPos q = p := by simp [World.iterPos, hit0]
      have HPOS := Lib.hid hpos0
      have hgq : q < wr.heap.size := (Array.getElem?_eq_some_iff.1 hit0).1
      clear hu0 hit0 ho0 hb0 hpos0
      by_cases hlt : p < s.size
      · have hnx := Lib.run_next_any_at (P := Try.prog) wr q s p 0 HIT.out hlt
        rcases hf : fstN ((bts s).drop p) with _ | c
        · exact absurd HR.out (HU.out.here hlt hf).2.1
        · obtain ⟨hc, hu1, hd, hw1⟩ := HU.out.step hf
          rw [hd] at hnx
          have HU1 := Lib.hid hu1
          have HBQ := Lib.hid (Lib.below_iterAt HB.out (show g ≤ q by have := Hq.out; omega) s (p + (encN c).length))
          have HITQ := Lib.hid (Lib.iterAt_heap wr q s p (p + (encN c).length) HIT.out)
          have HOQ := Lib.hid (own_iterAt HO.out HIT.out (p + (encN c).length))
          have hqs : g ≤ (wr.iterAt q s (p + (encN c).length)).heap.size := by rw [Lib.iterAt_size]; omega
          have hqq : q < (wr.iterAt q s (p + (encN c).length)).heap.size := by rw [Lib.iterAt_size]; omega
          have hcle := isC_le hc
          clear hu1 hd hf
          generalize hW : wr.iterAt q s (p + (encN c).length) = W at *
          have HW := Lib.hid hW
          clear hW
          go_wp2_with (at_builtin; go_must (refine wpList_app_i32 rfl (.tmp 15) (.tmp 17) _ rfl Try.underlying23 g u4 cs.length _ rfl HOQ.out _ rfl (c : Int) rfl (by omega) HBQ.out hqs ?_))
          intro v' w' ho1 hb1 hk1
          go_wp2
          go_roundw
          case rel =>
            refine ⟨_, _, HU1.out, ?_, ?_, hb1.out⟩
            · rw [hk1.out q hqq (own_iter_ne HOQ.out HITQ.out), HITQ.out]
            · rw [ints_append, List.length_append]; exact ho1.out
          case measure =>
            have e1 : w'.iterPos q = p + (encN c).length := by simp [World.iterPos, hk1.out q hqq (own_iter_ne HOQ.out HITQ.out), HITQ.out]
            rw [HPOS.out, e1]; omega
      · have hnx := Lib.run_next_end_at (P := Try.prog) wr q s p 0 HIT.out hlt
        go_wp2
        go_ret2
        obtain ⟨A, c, hA⟩ := own_form HO.out
        subst hA
        have hR := rgt_true HR.out
        rw [hR.1, hR.2, (HU.out.end_ hlt).1]
        refine ⟨A, _, c, rfl, ⟨HO.out, by omega, fun z hz => ?_⟩, HB.out⟩
        have := ints_range HU.out.2.1 z hz
        omega
  · have hz : 0 ≤ badZ (bts s) := by rcases Int.lt_or_le (badZ (bts s)) 0 with h | h
                                     · exact absurd (badZ_neg.1 h) hr
                                     · exact h
    have hR := rgt_false hr
    have HR := Lib.hid hR
    clear hr hR
    generalize badZ (bts s) = Z at hz ⊢
    go_wp2
    go_ret2
    rw [HR.out.1, HR.out.2]
    exact ⟨_, _, _, rfl, ownR_nil _ _, B1.out⟩
theorem utfCount_c (s : ByteArray) (w : World) (hs : s.size ≤ 10000000000) : Calls Try.prog 13 #[.string s] w fun e w' =>
    e = .returned (.int .i64 ((pts (bts s)).length : Int)) ∧ Below w.heap.size w w' := by
  go_enter Try.func13, Try.ntmps13
  go_wp2_with fail
  refine (utfRunes_c s w hs).mono ?_
  rintro e w1 ⟨A, m, c, rfl, ho, hb⟩
  have hl := ho.len
  rw [ints_length] at hl
  subst hl
  clear ho
  go_wp2
  go_ret
  exact ⟨rfl, hb⟩
/-- The text of runes; none, if one is no code point. -/
def txtZ (zs : List Int) : ByteArray := if zs.all isZ = true then stz (encs (nats zs)) else ⟨#[]⟩
theorem txtZ_ok {zs : List Int} (h : zs.all isZ = true) : txtZ zs = stz (encs (nats zs)) := by simp [txtZ, h]
theorem txtZ_no {zs : List Int} (h : zs.all isZ = false) : txtZ zs = ⟨#[]⟩ := by simp [txtZ, h]
theorem getD_mem {zs : List Int} {k : Nat} (hk : k < zs.length) : zs.getD k 0 ∈ zs := by
  rw [List.getD, List.getElem?_eq_getElem hk]; exact List.getElem_mem hk
theorem all_getD {zs : List Int} (h : ∀ j, j < zs.length → isZ (zs.getD j 0) = true) : zs.all isZ = true := by
  refine List.all_eq_true.2 fun z hz => ?_
  obtain ⟨j, hj, rfl⟩ := List.mem_iff_getElem.1 hz
  have := h j hj
  rwa [List.getD, List.getElem?_eq_getElem hj] at this
theorem all_no {zs : List Int} {k : Nat} (hk : k < zs.length) (h : isZ (zs.getD k 0) = false) : zs.all isZ = false := by
  rcases ha : zs.all isZ with _ | _
  · rfl
  · rw [List.all_eq_true.1 ha _ (getD_mem hk)] at h; cases h
set_option maxHeartbeats 1000000 in
theorem utfText_c (A : Option Addr) (n c : Nat) (zs : List Int) (w : World) (h : Rns w A n zs) : Calls Try.prog 16 #[.slice A n c] w fun e w' =>
    e = .returned (.tuple #[.string (txtZ zs), .bool (zs.all isZ)]) ∧ w = w' := by
  have H := Lib.hid h
  have hn := h.2.1
  have HL := Lib.hid h.len
  clear h
  go_enter Try.func16, Try.ntmps16
  go_wp2
  go_loopw [8] (fun i wr => ∃ k : Nat, k ≤ n ∧ i = .int .i64 (k : Int) ∧ wr = w ∧ ∀ j, j < k → isZ (zs.getD j 0) = true) (fun i _ => n - (intOf i).toNat)
  case atStart => exact ⟨0, Nat.zero_le _, rfl, rfl, fun j hj => absurd hj (by omega)⟩
  case round =>
    obtain ⟨k, hk, rfl, rfl, ha0⟩ := hrel
    have HA := Lib.hid ha0
    clear ha0
    by_cases hlt : k < n
    · obtain ⟨ad, rfl, _, hc, _, _⟩ := H.out.at_ hlt
      have HZ := Lib.hid (show zs.getD k 0 = zs.getD k 0 from rfl)
      generalize hz : zs.getD k 0 = Z at hc HZ
      have HZ2 := Lib.hid hz
      clear hz HZ
      go_wp2_with fail
      refine (utfScalar_c Z _).mono ?_
      rintro e w' ⟨rfl, rfl⟩
      rcases hb : isZ Z with _ | _
      · have HB := Lib.hid hb
        clear hb
        go_wp2
        go_ret2
        have h1 := all_no (zs := zs) (k := k) (by rw [HL.out]; exact hlt) (by rw [HZ2.out]; exact HB.out)
        rw [h1, txtZ_no h1]
        exact ⟨rfl, rfl⟩
      · have HB := Lib.hid hb
        clear hb
        go_wp2
        go_roundw
        case rel =>
          refine ⟨k + 1, by omega, by go_num, trivial, fun j hj => ?_⟩
          rcases Nat.lt_or_ge j k with hjk | hjk
          · exact HA.out j hjk
          · obtain rfl : j = k := by omega
            rw [HZ2.out]; exact HB.out
        case measure => simp [intOf]; omega
    · have hcv := conv_runes (c := c) H.out
      go_wp2
      go_ret2
      have h1 : zs.all isZ = true := all_getD fun j hj => HA.out j (by rw [HL.out] at hj; omega)
      have h2 := runesBytes_enc (allC_nats h1)
      rw [ints_nats h1] at h2
      rw [h1, txtZ_ok h1, ← h2]
      exact ⟨rfl, rfl⟩
set_option maxHeartbeats 400000 in
theorem sameR_c (A A' : Option Addr) (n c n' c' : Nat) (xs ys : List Int) (w : World) (h : Rns w A n xs) (h' : Rns w A' n' ys) :
    Calls Try.prog 12 #[.slice A n c, .slice A' n' c'] w fun e w' => e = .returned (.bool (decide (xs = ys))) ∧ Below w.heap.size w w' := by
  have hn := h.2.1
  have hn' := h'.2.1
  have hl := Lib.hid h.len
  have hl' := Lib.hid h'.len
  have H := Lib.hid h
  have H' := Lib.hid h'
  clear h h'
  by_cases hne : n = n'
  · subst hne
    go_enter Try.func12, Try.ntmps12
    go_wp2
    go_loopw [5] (fun i wr => ∃ k m : Nat, k ≤ n ∧ i = .int .i64 k ∧ wr = w.drewN m ∧ ∀ j, j < k → xs.getD j 0 = ys.getD j 0) (fun i _ => n - (intOf i).toNat)
    case atStart => exact ⟨0, 0, Nat.zero_le _, rfl, rfl, fun j hj => absurd hj (by omega)⟩
    case round =>
      obtain ⟨k, m, hk, rfl, rfl, hall0⟩ := hrel
      have hall := Lib.hid hall0
      clear hall0
      by_cases hlt : k < n
      · obtain ⟨ad, rfl, hb, hc, hx⟩ := H.out.at_ hlt
        obtain ⟨ad', rfl, hb', hc', hx'⟩ := H'.out.at_ hlt
        clear hx hx'
        generalize hX : xs.getD k 0 = X at hc
        generalize hY : ys.getD k 0 = Y at hc'
        have HX := Lib.hid hX
        have HY := Lib.hid hY
        clear hX hY
        go_wp2
        go_quiet (fail)
        go_wp2
        · have hd : (X != Y) = true := by assumption
          go_ret
          refine ⟨?_, ((Below.refl _ _).of_drewN _).of_drewN _⟩
          have : decide (xs = ys) = false := by
            simp only [decide_eq_false_iff_not]
            rintro rfl
            rw [← HX.out, ← HY.out] at hd
            simp at hd
          rw [this]; rfl
        · have hd : (X != Y) = false := by assumption
          go_roundw
          case rel =>
            refine ⟨k + 1, _, by omega, by go_num, rfl, fun j hj => ?_⟩
            rcases Nat.lt_or_ge j k with hjk | hjk
            · exact hall.out j hjk
            · obtain rfl : j = k := by omega
              rw [HX.out, HY.out]
              simpa using hd
          case measure => simp [intOf]; omega
      · go_wp2
        go_ret
        refine ⟨?_, (Below.refl _ _).of_drewN _⟩
        have : decide (xs = ys) = true := by
          simp only [decide_eq_true_eq]
          apply List.ext_getElem (by rw [hl.out, hl'.out])
          intro i h1 h2
          have := hall.out i (by rw [hl.out] at h1; omega)
          simpa [List.getD, List.getElem?_eq_getElem h1, List.getElem?_eq_getElem h2] using this
        rw [this]; rfl
  · have hb : (((n : Nat) : Int) != (n' : Int)) = true := by simp; omega
    go_enter Try.func12, Try.ntmps12
    go_wp2
    go_ret
    refine ⟨?_, Below.refl _ _⟩
    have : decide (xs = ys) = false := by
      simp only [decide_eq_false_iff_not]
      intro e; apply hne; rw [← hl.out, ← hl'.out, e]
    rw [this]; rfl
set_option maxHeartbeats 400000 in
theorem refScalar_c (r : Int) (w : World) : Calls Try.prog 15 #[.int .i32 r] w fun e w' => e = .returned (.bool (isZ r)) ∧ w = w' := by
  by_cases h0 : 0 ≤ r
  · by_cases h1 : r ≤ 1114111
    · by_cases h2 : r < 55296
      · have hz : isZ r = true := isZ_iff.2 (by omega)
        rw [hz]
        go_enter Try.func15, Try.ntmps15
        go_wp2
        go_ret
        exact ⟨rfl, rfl⟩
      · by_cases h3 : 57343 < r
        · have hz : isZ r = true := isZ_iff.2 (by omega)
          rw [hz]
          go_enter Try.func15, Try.ntmps15
          go_wp2
          go_ret
          exact ⟨rfl, rfl⟩
        · have hz : isZ r = false := by rw [Bool.eq_false_iff]; intro h; have := isZ_iff.1 h; omega
          rw [hz]
          go_enter Try.func15, Try.ntmps15
          go_wp2
          go_ret
          exact ⟨rfl, rfl⟩
    · have hz : isZ r = false := by rw [Bool.eq_false_iff]; intro h; have := isZ_iff.1 h; omega
      rw [hz]
      go_enter Try.func15, Try.ntmps15
      go_wp2
      go_ret
      exact ⟨rfl, rfl⟩
  · have hz : isZ r = false := by rw [Bool.eq_false_iff]; intro h; have := isZ_iff.1 h; omega
    rw [hz]
    go_enter Try.func15, Try.ntmps15
    go_wp2
    go_ret
    exact ⟨rfl, rfl⟩
/-- One, two, three, four bytes, in a new block. -/
theorem own_new {W : World} {base : Nat} (hb : base ≤ W.heap.size) (xs : List Nat) (vs : Array Value) (hv : vs.toList = u8s xs) (n : Nat) (hn : n = xs.length) (hm : n ≤ 1000) :
    (W.alloc (.cells vs 5)).ownsRow base 5 1 (.slice (some ⟨W.heap.size, 0, none⟩) n n) n (u8s xs) := by
  subst hn
  refine ⟨by simp [u8s], .inr ⟨W.heap.size, xs.length, vs, rfl, hb, heap_alloc_new W _, Nat.le_refl _, by unfold maxLen; omega, ?_, ?_⟩⟩
  · have := congrArg List.length hv
    simpa [u8s] using this
  · rw [hv, List.take_of_length_le (by simp [u8s])]
set_option maxHeartbeats 1000000 in
theorem refBytes_c (c : Nat) (w : World) (hc : isC c = true) : Calls Try.prog 18 #[.int .i32 (c : Int)] w fun e w' =>
    ∃ A m k, e = .returned (.slice A m k) ∧ w'.ownsRow w.heap.size 5 1 (.slice A m k) m (u8s (encN c)) ∧ m = (encN c).length ∧ Below w.heap.size w w' := by
  have hl := isC_le hc
  rcases encN_cases c with ⟨h1, he⟩ | ⟨h0, h1, he⟩ | ⟨h0, h1, he⟩ | ⟨h0, he⟩
  · have HE := Lib.hid he
    clear he
    go_enter Try.func18, Try.ntmps18
    go_wp2
    go_ret
    rw [HE.out]
    exact ⟨_, _, _, rfl, own_new (Nat.le_refl _) [c] _ rfl 1 rfl (by omega), rfl, (Below.refl _ _).alloc (Nat.le_refl _) _⟩
  · have HE := Lib.hid he
    have i0 : ¬ (c : Int) < 128 := by omega
    have i1 : (c : Int) < 2048 := by omega
    clear he
    go_enter Try.func18, Try.ntmps18
    go_wp2
    go_ret
    rw [HE.out]
    exact ⟨_, _, _, rfl, own_new (Nat.le_refl _) [192 + c / 64, 128 + c % 64] _ (by simp [u8s]) 2 rfl (by omega), rfl, (Below.refl _ _).alloc (Nat.le_refl _) _⟩
  · have HE := Lib.hid he
    have i0 : ¬ (c : Int) < 128 := by omega
    have i1 : ¬ (c : Int) < 2048 := by omega
    have i2 : (c : Int) < 65536 := by omega
    clear he
    go_enter Try.func18, Try.ntmps18
    go_wp2
    go_ret
    rw [HE.out]
    exact ⟨_, _, _, rfl, own_new (Nat.le_refl _) [224 + c / 4096, 128 + c / 64 % 64, 128 + c % 64] _ (by simp [u8s]) 3 rfl (by omega), rfl, (Below.refl _ _).alloc (Nat.le_refl _) _⟩
  · have HE := Lib.hid he
    have i0 : ¬ (c : Int) < 128 := by omega
    have i1 : ¬ (c : Int) < 2048 := by omega
    have i2 : ¬ (c : Int) < 65536 := by omega
    clear he
    go_enter Try.func18, Try.ntmps18
    go_wp2
    go_ret
    rw [HE.out]
    exact ⟨_, _, _, rfl, own_new (Nat.le_refl _) [240 + c / 262144, 128 + c / 4096 % 64, 128 + c / 64 % 64, 128 + c % 64] _ (by simp [u8s]) 4 rfl (by omega), rfl, (Below.refl _ _).alloc (Nat.le_refl _) _⟩
end Go.Proofs.Ytibmohnpgpbjoaa
