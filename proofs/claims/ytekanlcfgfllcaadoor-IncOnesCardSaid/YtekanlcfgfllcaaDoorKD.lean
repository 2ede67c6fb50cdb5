/-
  KD: RefA, RefB, RefC, RefD, RefE, RefF, RefG, RefH, RefI, Ans1, Ans2, Args.
-/
import Derived.IntWalk
import Derived.Test.YtekanlcfgfllcaaDoorKC
import Derived.Test.YtekanlcfgfllcaaDoorKA
/- RefA -/
set_option maxRecDepth 100000
namespace Go.Proofs.YtekanlcfgfllcaaDoor
open Go.RowKit
set_option maxHeartbeats 400000 in
theorem strip_big (s : ByteArray) (ds : List Nat) (w : World) (h : IsD s ds) (hs : s.size ≤ 1000000000000000) :
    Calls Tryd.prog 31 #[.string s] w fun e w' => ∃ s', e = .returned (.string s') ∧ IsD s' (decs (dval ds)) ∧ w = w' := by
  have hl := Lib.hid h.size
  have H := Lib.hid h
  clear h
  go_enter Tryd.func31, Tryd.ntmps31
  go_wp2
  go_loop [3] (fun i => ∃ k : Nat, k ≤ s.size ∧ i = .int .i64 k ∧ ∀ j, j < k → ds.getD j 0 = 0) (fun i => s.size - (intOf i).toNat)
  case atStart => exact ⟨0, Nat.zero_le _, rfl, fun j hj => absurd hj (by omega)⟩
  case round =>
    obtain ⟨k, hk, rfl, hall0⟩ := hrel
    have hall := Lib.hid hall0
    clear hall0
    by_cases hlt : k < s.size
    · have hb := H.out.at_ hlt
      have HB := Lib.hid hb
      clear hb
      go_wp2
      · have hd : (((s[k].toNat : Nat) : Int) == 48) = true := by assumption
        go_round
        case rel =>
          refine ⟨k + 1, by omega, by go_num, fun j hj => ?_⟩
          rcases Nat.lt_or_ge j k with hjk | hjk
          · exact hall.out j hjk
          · obtain rfl : j = k := by omega
            have h1 := HB.out
            have h2 : ((s[j].toNat : Nat) : Int) = 48 := by simpa using hd
            omega
        case measure => simp [intOf]; omega
      · have hd : (((s[k].toNat : Nat) : Int) == 48) = false := by assumption
        go_ret
        refine ⟨_, rfl, ?_, rfl⟩
        have e : decs (dval ds) = (ds.take s.size).drop k := by
          rw [← stripZ_eq ds H.out.2, List.take_of_length_le (by rw [hl.out]; exact Nat.le_refl _)]
          refine stripZ_drop ds k hall.out (fun _ => ?_)
          have h1 := HB.out
          have h2 : ¬ ((s[k].toNat : Nat) : Int) = 48 := by simpa using hd
          omega
        rw [e]
        exact H.out.cut k s.size
    · obtain rfl : k = s.size := by omega
      go_wp2
      go_ret
      refine ⟨_, rfl, ?_, rfl⟩
      have e : decs (dval ds) = (ds.take s.size).drop s.size := by
        rw [← stripZ_eq ds H.out.2, List.take_of_length_le (by rw [hl.out]; exact Nat.le_refl _)]
        exact stripZ_drop ds s.size hall.out (fun hh => by have := hl.out; omega)
      rw [e, List.drop_eq_nil_of_le (by simp; omega)]
      exact IsD.nil
theorem strip_c (s : ByteArray) (ds : List Nat) (w : World) (h : IsD s ds) (hs : s.size ≤ 1000000000) :
    Calls Tryd.prog 31 #[.string s] w fun e w' => ∃ s', e = .returned (.string s') ∧ IsD s' (decs (dval ds)) ∧ w = w' := strip_big s ds w h (by omega)
set_option maxHeartbeats 400000 in
theorem digit_c (s : ByteArray) (ds : List Nat) (w : World) (k : Int) (hk : 0 ≤ k) (hk2 : k ≤ 2000000000) (h : IsD s ds) (hs : s.size ≤ 1000000000) :
    Calls Tryd.prog 60 #[.string s, .int .i64 k] w fun e w' => e = .returned (.int .i64 (ds.reverse.getD k.toNat 0 : Nat)) ∧ w = w' := by
  obtain ⟨i, rfl⟩ := Int.eq_ofNat_of_zero_le hk
  rw [Int.toNat_natCast]
  have hl := Lib.hid h.size
  by_cases hlt : i < s.size
  · have hjs : s.size - 1 - i < s.size := by omega
    have hb := h.at_ hjs
    have e : ds.reverse.getD i 0 = ds.getD (s.size - 1 - i) 0 := by
      rw [List.getD, List.getD, List.getElem?_reverse (by rw [← hl.out]; exact hlt), ← hl.out]
    have hd10 : ds.getD (s.size - 1 - i) 0 < 10 := by
      have hj' : s.size - 1 - i < ds.length := by rw [← hl.out]; omega
      rw [List.getD, List.getElem?_eq_getElem hj']
      exact h.2 _ (List.getElem_mem hj')
    rw [e]
    generalize ds.getD (s.size - 1 - i) 0 = D at hb hd10
    have HB := Lib.hid hb
    clear h hb e
    go_enter Tryd.func60, Tryd.ntmps60
    go_wp2
    go_ret
    refine ⟨?_, rfl⟩
    have := HB.out
    exact ret_int (by omega)
  · have e : ds.reverse.getD i 0 = 0 := by
      rw [List.getD, List.getElem?_eq_none (by simp [← hl.out]; omega)]; rfl
    rw [e]
    clear h e
    go_enter Tryd.func60, Tryd.ntmps60
    go_wp2
    go_ret
    exact ⟨rfl, rfl⟩
set_option maxHeartbeats 400000 in
theorem less_c (s t : ByteArray) (a b : Nat) (w : World) (h : IsD s (decs a)) (h' : IsD t (decs b)) :
    Calls Tryd.prog 37 #[.string s, .string t] w fun e w' => e = .returned (.bool (decide (a < b))) ∧ w = w' := by
  have H := Lib.hid h
  have H' := Lib.hid h'
  clear h h'
  by_cases hne : s.size = t.size
  · have hb : (((s.size : Nat) : Int) != (t.size : Int)) = false := by simp; omega
    have hlen : (decs a).length = (decs b).length := by rw [← H.out.size, ← H'.out.size, hne]
    have HL := Lib.hid hlen
    clear hne hlen
    go_enter Tryd.func37, Tryd.ntmps37
    go_wp2
    go_ret
    refine ⟨?_, rfl⟩
    have e := bytesLess_digits s.toList t.toList (decs a) (decs b) H.out.list H'.out.list H.out.2 H'.out.2 HL.out
    rw [dval_decs, dval_decs] at e
    rw [← e]; rfl
  · have hb : (((s.size : Nat) : Int) != (t.size : Int)) = true := by simp; omega
    go_enter Tryd.func37, Tryd.ntmps37
    go_wp2
    go_ret
    refine ⟨?_, rfl⟩
    have e : decide (s.size < t.size) = decide (a < b) := by
      have h1 := H.out.size
      have h2 := H'.out.size
      rcases Nat.lt_or_gt_of_ne hne with hh | hh
      · have := decs_length_lt (a := a) (b := b) (by omega)
        simp [hh, this]
      · have := decs_length_lt (a := b) (b := a) (by omega)
        have h3 : ¬ a < b := by omega
        have h4 : ¬ s.size < t.size := by omega
        simp [h3, h4]
    rw [← e]; rfl
end Go.Proofs.YtekanlcfgfllcaaDoor
/- RefB -/
namespace Go.Proofs.YtekanlcfgfllcaaDoor
open Go.RowKit
end Go.Proofs.YtekanlcfgfllcaaDoor
/- RefC -/
namespace Go.Proofs.YtekanlcfgfllcaaDoor
open Go.RowKit
theorem rev_take_succ (xs : List Nat) (k : Nat) (hk : k < xs.length) : xs.reverse.take (k + 1) = xs.reverse.take k ++ [xs.getD (xs.length - 1 - k) 0] := by
  rw [List.take_succ_eq_append_getElem (by simpa using hk)]
  simp [List.getD, List.getElem?_eq_getElem (show xs.length - 1 - k < xs.length by omega)]
set_option maxHeartbeats 400000 in
theorem turned_c (A : Option Addr) (n c : Nat) (xs : List Nat) (w : World) (h : Bytes w A n xs) :
    Calls Tryd.prog 61 #[.slice A n c] w fun e w' => ∃ s', e = .returned (.string s') ∧ s'.data.toList.map UInt8.toNat = xs.reverse ∧ Below w.heap.size w w' := by
  obtain ⟨i0, hi, hz0, hz1, hz2⟩ := info_parts u8_info
  have hn := h.2.1
  have hl := Lib.hid h.len
  have H := Lib.hid h
  clear h
  generalize hg : w.heap.size = g at *
  have Hg := Lib.hid hg
  clear hg
  go_enter Tryd.func61, Tryd.ntmps61
  go_wp2
  go_loopw [3, 4] (fun v i wr => ∃ k : Nat, k ≤ n ∧ i = .int .i64 ((n : Int) - 1 - (k : Int)) ∧ wr.ownsRow g 5 1 v k (u8s (xs.reverse.take k)) ∧ Below g w wr) (fun _ i _ => (intOf i + 1).toNat)
  case atStart => exact ⟨0, by omega, by go_num, World.ownsRow_nil _ _ _ _, Below.refl _ _⟩
  case round =>
    obtain ⟨k, hk, rfl, hown0, hb0⟩ := hrel
    have HO := Lib.hid hown0
    have HB := Lib.hid hb0
    have HX := Lib.hid (H.out.below (by rw [Hg.out]; exact hb0))
    clear hown0 hb0
    by_cases hlt : k < n
    · obtain ⟨j, hj⟩ : ∃ j : Nat, n = k + 1 + j := ⟨n - k - 1, by omega⟩
      have hjn : j < n := by omega
      obtain ⟨ad, rfl, _, hcl, hx⟩ := HX.out.at_ hjn
      have hst := rev_take_succ xs k (by rw [hl.out]; exact hlt)
      rw [show xs.length - 1 - k = j by rw [hl.out]; omega] at hst
      generalize xs.getD j 0 = X at hcl hx hst
      have HST := Lib.hid hst
      rw [show (n : Int) - 1 - (k : Int) = (j : Int) by omega]
      have HJ := Lib.hid hj
      clear hst hj
      have hsz : g ≤ wr.heap.size := by have := HB.out.size; have e := Hg.out; omega
      go_wp2_with (at_builtin; go_must (refine wpList_app_u8 rfl (.tmp 12) (.tmp 17) _ rfl Tryd.underlying79 g u3 k _ rfl HO.out _ rfl X rfl (by omega) HB.out hsz ?_))
      intro v' w' ho1 hb1
      go_wp2
      go_roundw
      case rel => exact ⟨k + 1, by omega, by have e := HJ.out; congr 1; omega, by rw [HST.out]; exact ho1.out, hb1.out⟩
      case measure => simp [intOf]
    · obtain rfl : k = n := by omega
      have hall : ∀ x ∈ xs.reverse.take k, x < 256 := fun x hx => H.out.2.2 x (List.mem_reverse.1 (List.mem_of_mem_take hx))
      obtain ⟨sr, hconv, hsr⟩ := conv_own HO.out hall
      have HSR := Lib.hid hsr
      clear hall hsr
      go_wp2
      go_ret
      refine ⟨sr, rfl, ?_, HB.out⟩
      rw [HSR.out, List.take_of_length_le (by simp [hl.out])]
end Go.Proofs.YtekanlcfgfllcaaDoor
/- RefD -/
namespace Go.Proofs.YtekanlcfgfllcaaDoor
open Go.RowKit
/-- Digits as bytes. -/
def asc (os : List Nat) : List Nat := os.map (fun d => 48 + d)
theorem asc_append (a b : List Nat) : asc (a ++ b) = asc a ++ asc b := by simp [asc]
theorem asc_lt (os : List Nat) (h : ∀ d ∈ os, d < 10) : ∀ x ∈ asc os, x < 256 := by
  intro x hx
  obtain ⟨d, hd, rfl⟩ := List.mem_map.1 hx
  have := h d hd
  omega
theorem val_snoc (b : Nat) (os : List Nat) (x : Nat) : val b (os ++ [x]) = val b os + b ^ os.length * x := by simp [val_append, val]
theorem rev_getD_lt (ds : List Nat) (h : ∀ d ∈ ds, d < 10) (k : Nat) : ds.reverse.getD k 0 < 10 :=
  getD_lt 10 (by omega) _ (fun x hx => h x (List.mem_reverse.1 hx)) k
theorem rev_getD_zero (ds : List Nat) (k : Nat) (h : ds.length ≤ k) : ds.reverse.getD k 0 = 0 := by
  rw [List.getD, List.getElem?_eq_none (by simpa using h)]; rfl
/-- turned and Strip, one behind the other. -/
theorem isD_of_asc {s : ByteArray} {os : List Nat} (h : s.data.toList.map UInt8.toNat = (asc os).reverse) (hd : ∀ d ∈ os, d < 10) : IsD s os.reverse := by
  refine ⟨?_, fun d hd' => hd d (List.mem_reverse.1 hd')⟩
  rw [h, asc, List.map_reverse]
set_option maxHeartbeats 800000 in
theorem plus_c (s t : ByteArray) (ds es : List Nat) (w : World) (h : IsD s ds) (h' : IsD t es) (hs : s.size ≤ 100000000) (ht : t.size ≤ 100000000) :
    Calls Tryd.prog 36 #[.string s, .string t] w fun e w' => ∃ s', e = .returned (.string s') ∧ IsD s' (decs (dval ds + dval es)) ∧ Below w.heap.size w w' := by
  have hl := Lib.hid h.size
  have hl' := Lib.hid h'.size
  have H := Lib.hid h
  have H' := Lib.hid h'
  clear h h'
  generalize hg : w.heap.size = g at *
  have Hg := Lib.hid hg
  clear hg
  go_enter Tryd.func36, Tryd.ntmps36
  go_wp2
  go_loopw [5, 6, 7, 8] (fun v cy i _ wr => ∃ (k cr : Nat) (os : List Nat), i = .int .i64 (k : Int) ∧ cy = .int .i64 (cr : Int) ∧ k ≤ max s.size t.size + 1 ∧ cr ≤ 1 ∧ (max s.size t.size < k → cr = 0) ∧
      wr.ownsRow g 5 1 v k (u8s (asc os)) ∧ os.length = k ∧ (∀ d ∈ os, d < 10) ∧ val 10 os + 10 ^ k * cr = val 10 (ds.reverse.take k) + val 10 (es.reverse.take k) ∧ Below g w wr) (fun _ _ i _ _ => max s.size t.size + 1 - (intOf i).toNat)
  case atStart => exact ⟨0, 0, [], rfl, rfl, by omega, by omega, fun _ => rfl, World.ownsRow_nil _ _ _ _, rfl, by simp, rfl, Below.refl _ _⟩
  case round =>
    obtain ⟨k, cr, os, rfl, rfl, hk, hcr, hov0, hown0, hlen0, hd0, hv0, hb0⟩ := hrel
    have HOV := Lib.hid hov0
    have HO := Lib.hid hown0
    have HLEN := Lib.hid hlen0
    have HD := Lib.hid hd0
    have HV := Lib.hid hv0
    have HB := Lib.hid hb0
    have hsz : g ≤ wr.heap.size := by have := hb0.size; have e := Hg.out; omega
    have hkb : k ≤ 100000001 := by omega
    clear hov0 hown0 hlen0 hd0 hv0 hb0
    have hX := rev_getD_lt ds H.out.2 k
    have hY := rev_getD_lt es H'.out.2 k
    have hX0 := Lib.hid (rev_getD_zero ds k)
    have hY0 := Lib.hid (rev_getD_zero es k)
    have hv1 := Lib.hid (val_take_succ 10 ds.reverse k)
    have hv2 := Lib.hid (val_take_succ 10 es.reverse k)
    have C1 := fun W => digit_c s ds W (k : Int) (by omega) (by omega) H.out (by omega)
    have C2 := fun W => digit_c t es W (k : Int) (by omega) (by omega) H'.out (by omega)
    simp only [Int.toNat_natCast] at C1 C2
    generalize ds.reverse.getD k 0 = X at C1 hX hX0 hv1
    generalize es.reverse.getD k 0 = Y at C2 hY hY0 hv2
    have HC1 := Lib.hid C1
    have HC2 := Lib.hid C2
    clear C1 C2
    have hfacts := Lib.hid hk
    clear hk
    have hk1 := Lib.hid (show k < s.size ∨ k < t.size ∨ 0 < cr → k ≤ max s.size t.size by
      rintro (hh | hh | hh)
      · omega
      · omega
      · rcases Nat.lt_or_ge (max s.size t.size) k with h0 | h0
        · have := HOV.out h0; omega
        · exact h0)
    have hnext := Lib.hid (show max s.size t.size < k + 1 → (X + Y + cr) / 10 = 0 by
      intro hh
      have e1 := hX0.out (by have := hl.out; omega)
      have e2 := hY0.out (by have := hl'.out; omega)
      omega)
    rcases (by omega : (¬ k < s.size ∧ ¬ k < t.size ∧ ¬ 0 < cr) ∨ k < s.size ∨ (¬ k < s.size ∧ k < t.size) ∨ (¬ k < s.size ∧ ¬ k < t.size ∧ 0 < cr)) with ⟨h1, h2, h3⟩ | h1 | ⟨h1, h2⟩ | ⟨h1, h2, h3⟩
    · go_wp2_with fail
      obtain ⟨A, c, hA⟩ := own_form HO.out
      subst hA
      refine (turned_c A k c (asc os) wr (Bytes.of_own HO.out (by omega) (asc_lt os HD.out))).mono ?_
      rintro e w1 ⟨s1, rfl, hs1, hb1⟩
      have HS1 := Lib.hid (isD_of_asc hs1 HD.out)
      have HB1 := Lib.hid hb1
      have hs1z : s1.size ≤ 1000000000 := by rw [HS1.out.size, List.length_reverse, HLEN.out]; omega
      clear hs1 hb1
      go_wp2_with fail
      refine (strip_c s1 os.reverse w1 HS1.out hs1z).mono ?_
      rintro e w2 ⟨s2, rfl, hs2, rfl⟩
      have HS2 := Lib.hid hs2
      clear hs2
      go_wp2
      go_ret
      refine ⟨s2, rfl, ?_, HB.out.trans (HB1.out.mono hsz)⟩
      have e1 := HV.out
      have e2 : cr = 0 := by omega
      rw [e2, Nat.mul_zero, Nat.add_zero, List.take_of_length_le (by simp [← hl.out]; omega), List.take_of_length_le (by simp [← hl'.out]; omega)] at e1
      have e3 : dval os.reverse = dval ds + dval es := by rw [dval, List.reverse_reverse, e1]; rfl
      rw [← e3]; exact HS2.out
    all_goals
      go_wp2_with fail
      refine (HC1.out _).mono ?_
      rintro e w' ⟨rfl, rfl⟩
      go_wp2_with fail
      refine (HC2.out _).mono ?_
      rintro e w' ⟨rfl, rfl⟩
      go_wp2_with (at_builtin; go_must (refine wpList_app_u8 rfl (.tmp 34) (.tmp 39) _ rfl Tryd.underlying79 g u5 k _ rfl HO.out _ rfl (48 + (X + Y + cr) % 10) (by omega) (by omega) HB.out hsz ?_))
      intro v' w' ho1 hb1
      go_wp2
      go_roundw
      case rel =>
        refine ⟨k + 1, (X + Y + cr) / 10, os ++ [(X + Y + cr) % 10], by go_num, by congr 1, by have := hk1.out (by omega); omega, by omega, hnext.out, ?_, by simp [HLEN.out], ?_, ?_, hb1.out⟩
        · rw [asc_append]; exact ho1.out
        · intro d hd
          rcases List.mem_append.1 hd with hd | hd
          · exact HD.out d hd
          · rw [List.mem_singleton.1 hd]; omega
        · rw [val_snoc, HLEN.out, hv1.out, hv2.out, Nat.pow_succ]
          exact add_step 10 (10 ^ k) _ _ _ X Y cr _ _ HV.out (by omega)
      case measure =>
        have := hk1.out (by omega)
        simp [intOf]; omega
end Go.Proofs.YtekanlcfgfllcaaDoor
/- RefE -/
namespace Go.Proofs.YtekanlcfgfllcaaDoor
open Go.RowKit
set_option maxHeartbeats 800000 in
set_option maxRecDepth 100000 in
theorem minus_c (s t : ByteArray) (ds es : List Nat) (w : World) (h : IsD s ds) (h' : IsD t es) (hs : s.size ≤ 100000000) (hle : es.length ≤ ds.length) (hv : dval es ≤ dval ds) :
    Calls Tryd.prog 42 #[.string s, .string t] w fun e w' => ∃ s', e = .returned (.string s') ∧ IsD s' (decs (dval ds - dval es)) ∧ Below w.heap.size w w' := by
  have hl := Lib.hid h.size
  have hl' := Lib.hid h'.size
  have ht : t.size ≤ 100000000 := by rw [hl'.out]; have := hl.out; omega
  have H := Lib.hid h
  have H' := Lib.hid h'
  have HLE := Lib.hid hle
  have HVV := Lib.hid hv
  clear h h' hle hv
  generalize hg : w.heap.size = g at *
  have Hg := Lib.hid hg
  clear hg
  go_enter Tryd.func42, Tryd.ntmps42
  go_wp2
  go_loopw [5, 6, 7, 8] (fun v bw i _ wr => ∃ (k br : Nat) (os : List Nat), i = .int .i64 (k : Int) ∧ bw = .int .i64 (br : Int) ∧ k ≤ s.size ∧ br ≤ 1 ∧
      wr.ownsRow g 5 1 v k (u8s (asc os)) ∧ os.length = k ∧ (∀ d ∈ os, d < 10) ∧ val 10 os + val 10 (es.reverse.take k) = val 10 (ds.reverse.take k) + 10 ^ k * br ∧ Below g w wr) (fun _ _ i _ _ => s.size - (intOf i).toNat)
  case atStart => exact ⟨0, 0, [], rfl, rfl, by omega, by omega, World.ownsRow_nil _ _ _ _, rfl, by simp, rfl, Below.refl _ _⟩
  case round =>
    obtain ⟨k, br, os, rfl, rfl, hk, hbr, hown0, hlen0, hd0, hv0, hb0⟩ := hrel
    have HO := Lib.hid hown0
    have HLEN := Lib.hid hlen0
    have HD := Lib.hid hd0
    have HV := Lib.hid hv0
    have HB := Lib.hid hb0
    have hsz : g ≤ wr.heap.size := by have := hb0.size; have e := Hg.out; omega
    clear hown0 hlen0 hd0 hv0 hb0
    have hX := rev_getD_lt ds H.out.2 k
    have hY := rev_getD_lt es H'.out.2 k
    have hv1 := Lib.hid (val_take_succ 10 ds.reverse k)
    have hv2 := Lib.hid (val_take_succ 10 es.reverse k)
    have C1 := fun W => digit_c s ds W (k : Int) (by omega) (by omega) H.out (by omega)
    have C2 := fun W => digit_c t es W (k : Int) (by omega) (by omega) H'.out (by omega)
    simp only [Int.toNat_natCast] at C1 C2
    generalize ds.reverse.getD k 0 = X at C1 hX hv1
    generalize es.reverse.getD k 0 = Y at C2 hY hv2
    have HC1 := Lib.hid C1
    have HC2 := Lib.hid C2
    clear C1 C2
    by_cases hlt : k < s.size
    · by_cases hneg : (X : Int) - (Y : Int) - (br : Int) < 0
      · go_wp2_with fail
        refine (HC1.out _).mono ?_
        rintro e w' ⟨rfl, rfl⟩
        go_wp2_with fail
        refine (HC2.out _).mono ?_
        rintro e w' ⟨rfl, rfl⟩
        go_wp2_with (at_builtin; go_must (refine wpList_app_u8 rfl (.tmp 28) (.tmp 32) _ rfl Tryd.underlying79 g u5 k _ rfl HO.out _ rfl (48 + (X + 10 - Y - br)) (by omega) (by omega) HB.out hsz ?_))
        intro v' w' ho1 hb1
        go_wp2
        go_roundw
        case rel =>
          refine ⟨k + 1, 1, os ++ [X + 10 - Y - br], by go_num, rfl, by omega, by omega, ?_, by simp [HLEN.out], ?_, ?_, hb1.out⟩
          · rw [asc_append]; exact ho1.out
          · intro d hd
            rcases List.mem_append.1 hd with hd | hd
            · exact HD.out d hd
            · rw [List.mem_singleton.1 hd]; omega
          · rw [val_snoc, HLEN.out, hv1.out, hv2.out, Nat.pow_succ]
            exact sub_step 10 (10 ^ k) _ _ _ X Y br _ 1 HV.out (by omega)
        case measure => simp [intOf]; omega
      · go_wp2_with fail
        refine (HC1.out _).mono ?_
        rintro e w' ⟨rfl, rfl⟩
        go_wp2_with fail
        refine (HC2.out _).mono ?_
        rintro e w' ⟨rfl, rfl⟩
        go_wp2_with (at_builtin; go_must (refine wpList_app_u8 rfl (.tmp 28) (.tmp 32) _ rfl Tryd.underlying79 g u5 k _ rfl HO.out _ rfl (48 + (X - Y - br)) (by omega) (by omega) HB.out hsz ?_))
        intro v' w' ho1 hb1
        go_wp2
        go_roundw
        case rel =>
          refine ⟨k + 1, 0, os ++ [X - Y - br], by go_num, rfl, by omega, by omega, ?_, by simp [HLEN.out], ?_, ?_, hb1.out⟩
          · rw [asc_append]; exact ho1.out
          · intro d hd
            rcases List.mem_append.1 hd with hd | hd
            · exact HD.out d hd
            · rw [List.mem_singleton.1 hd]; omega
          · rw [val_snoc, HLEN.out, hv1.out, hv2.out, Nat.pow_succ]
            exact sub_step 10 (10 ^ k) _ _ _ X Y br _ 0 HV.out (by omega)
        case measure => simp [intOf]; omega
    · obtain rfl : k = s.size := by omega
      go_wp2_with fail
      obtain ⟨A, c, hA⟩ := own_form HO.out
      subst hA
      refine (turned_c A s.size c (asc os) wr (Bytes.of_own HO.out (by omega) (asc_lt os HD.out))).mono ?_
      rintro e w1 ⟨s1, rfl, hs1, hb1⟩
      have HS1 := Lib.hid (isD_of_asc hs1 HD.out)
      have HB1 := Lib.hid hb1
      have hs1z : s1.size ≤ 1000000000 := by rw [HS1.out.size, List.length_reverse, HLEN.out]; omega
      clear hs1 hb1
      go_wp2_with fail
      refine (strip_c s1 os.reverse w1 HS1.out hs1z).mono ?_
      rintro e w2 ⟨s2, rfl, hs2, rfl⟩
      have HS2 := Lib.hid hs2
      clear hs2
      go_wp2
      go_ret
      refine ⟨s2, rfl, ?_, HB.out.trans (HB1.out.mono hsz)⟩
      have e1 := HV.out
      have e0 := HLE.out
      rw [List.take_of_length_le (by simp; have := hl.out; omega), List.take_of_length_le (by simp; have := hl.out; omega)] at e1
      have e2 := val_lt 10 os HD.out
      rw [HLEN.out] at e2
      have e3 : dval os.reverse = dval ds - dval es := by
        rw [dval, List.reverse_reverse]
        exact sub_last _ _ _ _ _ e1 e2 HVV.out hbr
      rw [← e3]; exact HS2.out
end Go.Proofs.YtekanlcfgfllcaaDoor
/- RefF -/
namespace Go.Proofs.YtekanlcfgfllcaaDoor
open Go.RowKit
end Go.Proofs.YtekanlcfgfllcaaDoor
/- RefG -/
namespace Go.Proofs.YtekanlcfgfllcaaDoor
open Go.RowKit
/-- Whole numbers as values. -/
def i64s (xs : List Nat) : List Value := xs.map fun (x : Nat) => Value.int .i64 (x : Int)
theorem i64s_length (xs : List Nat) : (i64s xs).length = xs.length := by simp [i64s]
theorem i64s_get (xs : List Nat) (k : Nat) : (i64s xs)[k]? = (xs[k]?).map fun (x : Nat) => Value.int .i64 (x : Int) := by simp [i64s]
theorem i64s_set (zs : List Nat) (k x : Nat) : i64s (zs.set k x) = (i64s zs).set k (.int .i64 (x : Int)) := by simp [i64s, List.map_set]
theorem i64_info : (Tryd.prog.info? 3).map (fun i => (i.zero, i.size, i.bytes)) = some (some (.int .i64 0), 1, 8) := by kernel_rfl
theorem made_i64 (k : Nat) : (madeCells #[Value.int .i64 0] k).toList = i64s (List.replicate k 0) := by
  simp only [madeCells, i64s, List.map_replicate, Array.toList_map, Array.toList_range]
  rw [List.eq_replicate_iff]
  refine ⟨by simp, fun b hb => ?_⟩
  obtain ⟨x, _, rfl⟩ := List.mem_map.1 hb
  have : x % (#[Value.int .i64 0] : Array Value).size = 0 := Nat.mod_one x
  rw [this]; rfl
theorem own_at64 {w : World} {base g N : Nat} {zs : List Nat} (h : w.ownsRow base 3 1 (.slice (some ⟨g, 0, none⟩) N N) N (i64s zs)) {j : Nat} (hj : j < N) : w.cell? ⟨g, j, none⟩ = some (.int .i64 ((zs.getD j 0 : Nat) : Int)) := by
  have hl : zs.length = N := by have := h.1; simpa [i64s_length] using this
  rw [h.cellAt j (by omega), i64s_get, List.getElem?_eq_getElem (by omega)]
  simp [List.getD, List.getElem?_eq_getElem (show j < zs.length by omega)]
theorem still_of {P : Program} {f : FuncId} {args : Array Value} {w : World} {v : Value} (h : Calls P f args w fun e w' => e = .returned v ∧ w = w') : Calls P f args w fun e w' => e = .returned v ∧ w' = w :=
  h.mono fun _ _ ⟨h1, h2⟩ => ⟨h1, h2.symm⟩
theorem dig_prod {X Y : Nat} (hx : X < 10) (hy : Y < 10) : X * Y ≤ 81 := Nat.mul_le_mul (show X ≤ 9 by omega) (show Y ≤ 9 by omega)
theorem times_step (o k V0 y x z v v' T : Nat) (hs : v' + 10 ^ (o + k) * z = v + 10 ^ (o + k) * (z + y * x)) (hv : v = V0 + 10 ^ o * (y * T)) : v' = V0 + 10 ^ o * (y * (T + 10 ^ k * x)) := by
  have := row_step 10 o k V0 y x z 0 (z + y * x) 0 v v' T hs (by simpa using hv) (by rw [Nat.mul_comm]; omega)
  simpa using this
set_option maxHeartbeats 2000000 in
set_option maxRecDepth 100000 in
theorem times_c (s t : ByteArray) (ds es : List Nat) (w : World) (h : IsD s ds) (h' : IsD t es) (hs : s.size ≤ 100000000) (ht : t.size ≤ 100000000) :
    Calls Tryd.prog 40 #[.string s, .string t] w fun e w' => ∃ s', e = .returned (.string s') ∧ IsD s' (decs (dval ds * dval es)) ∧ Below w.heap.size w w' := by
  obtain ⟨i0, hi, hz0, hz1, hz2⟩ := info_parts i64_info
  have hl := Lib.hid h.size
  have hl' := Lib.hid h'.size
  have H := Lib.hid h
  have H' := Lib.hid h'
  clear h h'
  obtain ⟨N, hN⟩ : ∃ N : Nat, N = s.size + t.size + 1 := ⟨_, rfl⟩
  have HN := Lib.hid hN
  have hN1 : N ≤ 200000001 := by omega
  have hN2 : s.size + t.size < N := by omega
  have HNI := Lib.hid (show (s.size : Int) + (t.size : Int) + 1 = (N : Int) by omega)
  clear hN
  go_enter Tryd.func40, Tryd.ntmps40
  go_wp2_with (at_make; refine wpList_make_full _ rfl _ _ 85 rfl w.heap.size 3 i0 (.int .i64 0) 1 Tryd.underlying85 hi hz0 hz1 _ _ _ _ N rfl rfl ?b0 ?b1 ?b2 ?b3 (Nat.le_refl _) ?_)
  case b0 => have := HNI.out; omega
  case b1 => have := HNI.out; omega
  case b2 => rw [hz2]; omega
  case b3 => unfold maxLen; omega
  rw [HNI.out]
  intro w1 hown hgrow
  rw [made_i64] at hown
  have hb1 : Below w.heap.size w w1 := (Below.refl _ _).grown hgrow (Nat.le_refl _) (fun k hk => by cases hk)
  have W0 := Lib.hid hown
  have hb1' := Lib.hid hb1
  clear hown hb1 hgrow
  go_wp2_with fail
  generalize hg : w.heap.size = g
  have Hg := Lib.hid hg
  clear hg
  go_loopw [6, 7] (fun i _ wr => ∃ (p : Nat) (os : List Nat), p ≤ s.size ∧ i = .int .i64 (p : Int) ∧ wr.ownsRow g 3 1 (.slice (some ⟨g, 0, none⟩) N N) N (i64s os) ∧ Below g w wr ∧ os.length = N ∧
      (∀ j, os.getD j 0 ≤ 81 * p) ∧ val 10 os = val 10 (ds.reverse.take p) * val 10 es.reverse) (fun i _ _ => s.size - (intOf i).toNat)
  case atStart => exact ⟨0, List.replicate N 0, Nat.zero_le _, rfl, by rw [← Hg.out]; exact W0.out, by rw [← Hg.out]; exact hb1'.out, by simp, fun j => by rw [getD_replicate]; omega, by simp [val_replicate, val]⟩
  case round =>
    obtain ⟨p, os, hp, rfl, hown0, hbw0, hul0, hub0, hval0⟩ := hrel
    have HO := Lib.hid hown0
    have HBW := Lib.hid hbw0
    have HUL := Lib.hid hul0
    have HUB := Lib.hid hub0
    have HV := Lib.hid hval0
    clear hown0 hbw0 hul0 hub0 hval0
    by_cases hlt : p < s.size
    · have hX := rev_getD_lt ds H.out.2 p
      have C1 := fun W => digit_c s ds W (p : Int) (by omega) (by omega) H.out (by omega)
      simp only [Int.toNat_natCast] at C1
      have hv1 := Lib.hid (val_take_succ 10 ds.reverse p)
      generalize ds.reverse.getD p 0 = X at C1 hX hv1
      have HC1 := Lib.hid C1
      clear C1
      go_wp2
      go_loopw [7] (fun j wi => ∃ (q : Nat) (us : List Nat), q ≤ t.size ∧ j = .int .i64 (q : Int) ∧ wi.ownsRow g 3 1 (.slice (some ⟨g, 0, none⟩) N N) N (i64s us) ∧ Below g w wi ∧ us.length = N ∧
          (∀ j, us.getD j 0 ≤ 81 * p + 81) ∧ (∀ j, p + q ≤ j → us.getD j 0 ≤ 81 * p) ∧ val 10 us = val 10 os + 10 ^ p * (X * val 10 (es.reverse.take q))) (fun j _ => t.size - (intOf j).toNat)
      case atStart => exact ⟨0, os, Nat.zero_le _, rfl, HO.out, HBW.out, HUL.out, fun j => by have := HUB.out j; omega, fun j _ => HUB.out j, by simp [val]⟩
      case round =>
        obtain ⟨q, us, hq, rfl, hown1, hbw1, hul1, hub1, hub2, hval1⟩ := hrel
        have HO1 := Lib.hid hown1
        have HBW1 := Lib.hid hbw1
        have HUL1 := Lib.hid hul1
        have HUB1 := Lib.hid hub1
        have HUB2 := Lib.hid hub2
        have HV1 := Lib.hid hval1
        clear hown1 hbw1 hul1 hub1 hub2 hval1
        by_cases hlt2 : q < t.size
        · have hpq : p + q < N := by omega
          have hcell := own_at64 HO1.out (j := p + q) hpq
          have hfr := HO1.out.frozenAt (p + q)
          have hZ := HUB2.out (p + q) (Nat.le_refl _)
          have hst := Lib.hid fun l => val_set 10 us (p + q) l (by rw [HUL1.out]; exact hpq)
          generalize us.getD (p + q) 0 = Z at hcell hZ hst
          have hY := rev_getD_lt es H'.out.2 q
          have C2 := fun W => digit_c t es W (q : Int) (by omega) (by omega) H'.out (by omega)
          simp only [Int.toNat_natCast] at C2
          have hv2 := Lib.hid (val_take_succ 10 es.reverse q)
          generalize es.reverse.getD q 0 = Y at C2 hY hv2
          have HC2 := Lib.hid C2
          clear C2
          have hxy := dig_prod hX hY
          have hxyI : (X : Int) * (Y : Int) ≤ 81 := by rw [← Int.natCast_mul]; omega
          have hxyI0 : 0 ≤ (X : Int) * (Y : Int) := by rw [← Int.natCast_mul]; omega
          have q1 : IntKind.i64.wrap ((p : Int) + (q : Int)) = (p : Int) + (q : Int) := IntWalk.i64_in _ (by omega)
          have q2 : 0 ≤ (p : Int) + (q : Int) := by omega
          have q3 : ((p : Int) + (q : Int)).toNat = p + q := by omega
          have q4 : (p : Int) + (q : Int) < (N : Int) := by omega
          have q5 : IntKind.i64.wrap ((X : Int) * (Y : Int)) = (X : Int) * (Y : Int) := IntWalk.i64_in _ (by omega)
          have q6 : IntKind.i64.wrap ((Z : Int) + (X : Int) * (Y : Int)) = (Z : Int) + (X : Int) * (Y : Int) := IntWalk.i64_in _ (by omega)
          go_wp2
          go_still_tail 19, (by kernel_rfl)
          still_call (still_of (HC1.out _))
          repeat still_step
          still_call (still_of (HC2.out _))
          repeat still_step
          refine wpStill_nil ?_
          clear q1 q3 q5 q6
          go_wp2
          go_roundw
          case rel =>
            have hcast : (X : Int) * (Y : Int) = ((X * Y : Nat) : Int) := by simp
            refine ⟨q + 1, us.set (p + q) (Z + X * Y), by omega, by go_num, ?_, HBW1.out.drew.setCell (Nat.le_refl _) _, by simpa using HUL1.out, ?_, ?_, ?_⟩
            · rw [i64s_set, hcast]
              exact (World.ownsRow.stored (w := wr.drew) HO1.out (p + q) _).1
            · intro j
              rw [getD_set]
              split
              · omega
              · exact HUB1.out j
            · intro j hj
              rw [getD_set_ne _ _ _ _ (by omega)]
              exact HUB2.out j (by omega)
            · rw [hv2.out]
              exact times_step p q _ X Y Z _ _ _ (hst.out _) HV1.out
          case measure => simp [intOf]; omega
        · obtain rfl : q = t.size := by omega
          go_wp2
          go_roundw
          case rel =>
            refine ⟨p + 1, us, by omega, by go_num, HO1.out, HBW1.out, HUL1.out, fun j => by have := HUB1.out j; omega, ?_⟩
            rw [HV1.out, HV.out, hv1.out, List.take_of_length_le (l := es.reverse) (by rw [List.length_reverse, ← hl'.out]; exact Nat.le_refl _), Nat.add_mul, Nat.mul_assoc]
          case measure => simp [intOf]; omega
    · obtain rfl : p = s.size := by omega
      obtain ⟨wo, rfl⟩ : ∃ wo : World, wo = wr := ⟨_, rfl⟩
      generalize hg3 : wo.heap.size = g3
      have Hg3 := Lib.hid hg3
      have hgg : g ≤ g3 := by have := HBW.out.size; have := Hg.out; omega
      have hgl : g < g3 := by
        obtain ⟨g', cap', e1, _, h2, _⟩ := own_pos HO.out (by omega)
        have e2 : g = g' := by simpa using (show g = g' ∧ N = cap' by simpa using e1).1
        omega
      clear hg3
      go_wp2
      go_loopw [8, 9, 10, 11] (fun v cy i _ wr => ∃ (k cr : Nat) (tx : List Nat), k ≤ N ∧ i = .int .i64 (k : Int) ∧ cy = .int .i64 (cr : Int) ∧ cr ≤ 10000000000 ∧
          wr.ownsRow g3 5 1 v k (u8s (asc tx)) ∧ tx.length = k ∧ (∀ d ∈ tx, d < 10) ∧ val 10 tx + 10 ^ k * cr = val 10 (os.take k) ∧ Below g3 wo wr) (fun _ _ i _ _ => N - (intOf i).toNat)
      case atStart => exact ⟨0, 0, [], Nat.zero_le _, rfl, rfl, by omega, World.ownsRow_nil _ _ _ _, rfl, by simp, rfl, Below.refl _ _⟩
      case round =>
        obtain ⟨k, cr, tx, hk, rfl, rfl, hcr, hown1, hlen1, hd1, hv1, hb1⟩ := hrel
        have HO1 := Lib.hid hown1
        have HLEN := Lib.hid hlen1
        have HD := Lib.hid hd1
        have HV1 := Lib.hid hv1
        have HB := Lib.hid hb1
        have hsz : g3 ≤ wr.heap.size := by have := hb1.size; have := Hg3.out; omega
        have HOW := Lib.hid (own_kept_lt HO.out hb1 (fun x hx => by
          have e : g = x := by simpa [Value.ownBlock] using hx
          omega))
        clear hown1 hlen1 hd1 hv1 hb1
        by_cases hlt2 : k < N
        · have hcell := own_at64 HOW.out hlt2
          have hZ := HUB.out k
          have hv2 := Lib.hid (val_take_succ 10 os k)
          generalize os.getD k 0 = Z at hcell hZ hv2
          go_wp2_with (at_builtin; go_must (refine wpList_app_u8 rfl (.tmp 62) (.tmp 67) _ rfl Tryd.underlying79 g3 u8 k _ rfl HO1.out _ rfl (48 + (Z + cr) % 10) (by omega) (by omega) HB.out hsz ?_))
          intro v' w' ho1 hb1
          go_wp2
          go_roundw
          case rel =>
            refine ⟨k + 1, (Z + cr) / 10, tx ++ [(Z + cr) % 10], by omega, by go_num, by congr 1, by omega, ?_, by simp [HLEN.out], ?_, ?_, hb1.out⟩
            · rw [asc_append]; exact ho1.out
            · intro d hd
              rcases List.mem_append.1 hd with hd | hd
              · exact HD.out d hd
              · rw [List.mem_singleton.1 hd]; omega
            · rw [val_snoc, HLEN.out, hv2.out, Nat.pow_succ]
              exact carry_step (10 ^ k) _ Z cr _ _ _ HV1.out (by omega)
          case measure => simp [intOf]; omega
        · obtain rfl : k = N := by omega
          go_wp2_with fail
          obtain ⟨A, c, hA⟩ := own_form HO1.out
          subst hA
          refine (turned_c A k c (asc tx) wr (Bytes.of_own HO1.out (by omega) (asc_lt tx HD.out))).mono ?_
          rintro e w1 ⟨s1, rfl, hs1, hb1⟩
          have HS1 := Lib.hid (isD_of_asc hs1 HD.out)
          have HB1 := Lib.hid hb1
          have hs1z : s1.size ≤ 1000000000 := by rw [HS1.out.size, List.length_reverse, HLEN.out]; omega
          clear hs1 hb1
          go_wp2_with fail
          refine (strip_c s1 tx.reverse w1 HS1.out hs1z).mono ?_
          rintro e w2 ⟨s2, rfl, hs2, rfl⟩
          have HS2 := Lib.hid hs2
          clear hs2
          go_wp2
          go_ret
          refine ⟨s2, rfl, ?_, by rw [Hg.out]; exact (HBW.out.trans (HB.out.mono hgg)).trans (HB1.out.mono (by omega))⟩
          have e1 := HV1.out
          rw [List.take_of_length_le (by rw [HUL.out]; exact Nat.le_refl _), HV.out, List.take_of_length_le (by rw [List.length_reverse, ← hl.out]; exact Nat.le_refl _)] at e1
          have e3 : dval tx.reverse = dval ds * dval es := by
            rw [dval, List.reverse_reverse]
            refine no_carry _ _ _ _ e1 ?_
            have l1 := dval_lt ds H.out.2
            have l2 := dval_lt es H'.out.2
            refine Nat.lt_of_lt_of_le (mul_lt_pow l1 l2) (Nat.pow_le_pow_right (by omega) ?_)
            rw [← hl.out, ← hl'.out]; omega
          rw [← e3]; exact HS2.out
end Go.Proofs.YtekanlcfgfllcaaDoor
/- RefH -/
namespace Go.Proofs.YtekanlcfgfllcaaDoor
open Go.RowKit
theorem dval_take_succ (ds : List Nat) (k : Nat) (h : k < ds.length) : dval (ds.take (k + 1)) = dval (ds.take k) * 10 + ds.getD k 0 := by rw [take_snoc_getD ds k h, dval_snoc]
theorem IsD.nonempty {s : ByteArray} {n : Nat} (h : IsD s (decs n)) (hn : 0 < n) : s.toList.isEmpty = false := by
  have h1 := h.size
  have h2 : (decs n).length ≠ 0 := fun e => by have := (decs_length_zero n).1 e; omega
  rcases hl : s.toList with _ | ⟨x, r⟩
  · have := h.list
    rw [hl] at this
    simp at this
    exact absurd (by rw [this]; rfl) h2
  · rfl
theorem take_one (ds : List Nat) (k : Nat) (h : k < ds.length) : (ds.take (k + 1)).drop k = [ds.getD k 0] := by
  rw [take_snoc_getD ds k h, List.drop_append_of_le_length (by simp; omega), List.drop_eq_nil_of_le (by simp; omega)]
  rfl
/-- One digit of a division on paper. -/
theorem over_step {D b Q R n d T : Nat} (hD : D = b * Q + R) (hT : T = R * 10 + d) (hn : n = T / b) : D * 10 + d = b * (Q * 10 + n) + T % b := by
  subst hn
  have hm := Nat.div_add_mod T b
  rw [Nat.mul_add, ← Nat.mul_assoc]
  subst hT
  omega
set_option maxHeartbeats 1000000 in
set_option maxRecDepth 100000 in
theorem over_c (s t : ByteArray) (ds : List Nat) (b : Nat) (w : World) (h : IsD s ds) (h' : IsD t (decs b)) (hs : s.size ≤ 10000000) (ht : t.size ≤ 10000000) (hb0 : 0 < b) :
    Calls Tryd.prog 33 #[.string s, .string t] w fun e w' => ∃ s1 s2, e = .returned (.tuple #[.string s1, .string s2]) ∧ IsD s1 (decs (dval ds / b)) ∧ IsD s2 (decs (dval ds % b)) ∧ Below w.heap.size w w' := by
  have hl := Lib.hid h.size
  have HT := Lib.hid h'.size
  have H := Lib.hid h
  have H' := Lib.hid h'
  have hd10 := Lib.hid h.2
  clear h h'
  go_enter Tryd.func33, Tryd.ntmps33
  go_wp2
  go_loopw [6, 7, 8, 9] (fun qv rv i _ wr => ∃ (k : Nat) (qs rs : ByteArray) (es : List Nat) (R : Nat), k ≤ s.size ∧ i = .int .i64 k ∧ qv = .string qs ∧ rv = .string rs ∧ Hid (IsD qs es) ∧ Hid (es.length = k) ∧ Hid (IsD rs (decs R)) ∧ R < b ∧
      Hid (dval (ds.take k) = b * dval es + R) ∧ Hid (Below w.heap.size w wr)) (fun _ _ i _ _ => s.size - (intOf i).toNat)
  case atStart => exact ⟨0, _, _, [], 0, Nat.zero_le _, rfl, rfl, rfl, Lib.hid IsD.nil, Lib.hid rfl, Lib.hid (by rw [decs_zero]; exact IsD.nil), hb0, Lib.hid (by simp [dval, val]), Lib.hid (Below.refl _ _)⟩
  case round =>
    obtain ⟨k, qs, rs, es, R, hk, rfl, rfl, rfl, HQ, HEL, HRS, hR, HV, HB⟩ := hrel
    have hqz : qs.size ≤ 10000000 := by rw [HQ.out.size, HEL.out]; omega
    have hrz : rs.size ≤ 10000000 := by
      rw [HRS.out.size]
      have := decs_length_le (Nat.le_of_lt hR)
      have := HT.out
      omega
    by_cases hlt : k < s.size
    · have hd := getD_lt 10 (by omega) ds hd10.out k
      have hts := dval_take_succ ds k (by rw [← hl.out]; exact hlt)
      have hcut := H.out.cut k (k + 1)
      rw [take_one ds k (by rw [← hl.out]; exact hlt)] at hcut
      generalize ds.getD k 0 = d at *
      have HTS := Lib.hid hts
      have HC := Lib.hid (HRS.out.append hcut)
      have hcz : (s.extract k (k + 1)).size = 1 := by rw [hcut.size]; rfl
      clear hts hcut
      have hkk : ¬ ((k : Int) + 1 < (k : Int)) := by omega
      go_wp2_with fail
      refine (strip_c _ _ wr HC.out (by rw [HC.out.size]; have := HRS.out.size; simp; omega)).mono ?_
      rintro e w' ⟨r0, rfl, hr0, rfl⟩
      rw [dval_snoc, dval_decs] at hr0
      have HR0 := Lib.hid hr0
      have hT10 : R * 10 + d < 10 * b := by omega
      clear hr0 HRS HC hkk
      generalize hTT : R * 10 + d = T at *
      have HTT := Lib.hid hTT
      clear hTT
      go_wp2
      obtain ⟨wo, rfl⟩ : ∃ wo : World, wo = wr := ⟨_, rfl⟩
      go_loopw [7, 9] (fun rv nv wi => ∃ (j : Nat) (r1 : ByteArray), nv = .int .i64 j ∧ rv = .string r1 ∧ Hid (IsD r1 (decs (T - b * j))) ∧ Hid (b * j ≤ T) ∧ j ≤ 10 ∧ Hid (Below wo.heap.size wo wi)) (fun _ nv _ => 10 - (intOf nv).toNat)
      case atStart => exact ⟨0, r0, rfl, rfl, by rw [Nat.mul_zero, Nat.sub_zero]; exact HR0, Lib.hid (by omega), by omega, Lib.hid (Below.refl _ _)⟩
      case round =>
        obtain ⟨j, r1, rfl, rfl, HR1, HJ, hj, HBI⟩ := hrel
        have CL := less_c r1 t (T - b * j) b wr HR1.out H'.out
        by_cases hless : T - b * j < b
        · rw [decide_eq_true hless] at CL
          have HCL := Lib.hid CL
          have hjq : j = T / b := by
            have := HJ.out
            refine (Nat.div_eq_of_lt_le ?_ ?_).symm
            · rw [Nat.mul_comm]; exact this
            · rw [Nat.mul_comm, Nat.mul_add]; omega
          have hjm : T - b * j = T % b := by rw [hjq]; have := Nat.div_add_mod T b; omega
          have hj9 : j ≤ 9 := by
            have : j < 10 := by rw [hjq, Nat.div_lt_iff_lt_mul hb0]; exact hT10
            omega
          have HJQ := Lib.hid hjq
          have HR2 := Lib.hid (hjm ▸ HR1.out)
          have hcv := fun (W : World) (cap : Nat) => conv_byte W cap (48 + (j : Int)) (by omega) (by omega)
          have hbs := byteStr_size (48 + (j : Int))
          clear CL hless hjq hjm
          go_wp2_with fail
          refine HCL.out.mono ?_
          rintro e w' ⟨rfl, rfl⟩
          clear HCL
          go_wp2
          go_roundw
          case rel =>
            refine ⟨k + 1, _, r1, es ++ [j], T % b, by omega, by go_num, rfl, rfl, Lib.hid (HQ.out.append (IsD.byte rfl (by omega))), Lib.hid (by simp [HEL.out]), HR2, Nat.mod_lt _ hb0, Lib.hid ?_, Lib.hid ((HB.out.trans (HBI.out.mono HB.out.size)).alloc (Nat.le_trans HB.out.size HBI.out.size) _)⟩
            rw [HTS.out, dval_snoc]
            exact over_step HV.out HTT.out.symm HJQ.out
          case measure => simp [intOf]; omega
        · rw [decide_eq_false hless] at CL
          have HCL := Lib.hid CL
          have hj9 : j < 10 := by
            rcases Nat.lt_or_ge j 10 with h0 | h0
            · exact h0
            · have : b * 10 ≤ b * j := Nat.mul_le_mul_left b h0
              omega
          have hle1 : (decs b).length ≤ (decs (T - b * j)).length := decs_length_le (by omega)
          have hrz1 : r1.size ≤ 100000000 := by
            rw [HR1.out.size]
            refine Nat.le_trans (decs_length_le (Nat.le_of_lt (Nat.lt_of_le_of_lt (Nat.sub_le _ _) hT10))) ?_
            have h1 := lt_pow_decs b
            have h2 : (decs (10 * b)).length ≤ (decs b).length + 1 := decs_len (by rw [Nat.pow_succ]; omega)
            have := HT.out
            omega
          have CM := minus_c r1 t _ _ wr HR1.out H'.out hrz1 hle1 (by rw [dval_decs, dval_decs]; omega)
          rw [dval_decs, dval_decs] at CM
          have HCM := Lib.hid CM
          have HJ2 := Lib.hid (show b * (j + 1) ≤ T by have := HJ.out; rw [Nat.mul_add]; omega)
          have hsub : T - b * j - b = T - b * (j + 1) := by rw [Nat.mul_add]; omega
          have HSUB := Lib.hid hsub
          clear CL CM hless hle1 hsub
          go_wp2_with fail
          refine HCL.out.mono ?_
          rintro e w' ⟨rfl, rfl⟩
          clear HCL
          go_wp2_with fail
          refine HCM.out.mono ?_
          rintro e w2 ⟨r2, rfl, hr2, hb2⟩
          rw [HSUB.out] at hr2
          have HR2 := Lib.hid hr2
          have HB2 := Lib.hid (HBI.out.trans (hb2.mono HBI.out.size))
          clear hr2 hb2 HCM
          go_wp2
          go_roundw
          case rel => exact ⟨j + 1, r2, by go_num, rfl, HR2, HJ2, by omega, HB2⟩
          case measure => simp [intOf]; omega
    · obtain rfl : k = s.size := by omega
      go_wp2_with fail
      refine (strip_c qs es wr HQ.out (by omega)).mono ?_
      rintro e w' ⟨s', rfl, hs', rfl⟩
      have hv := HV.out
      rw [List.take_of_length_le (by rw [← hl.out]; exact Nat.le_refl _)] at hv
      have h1 : dval es = dval ds / b := by rw [hv, Nat.mul_add_div hb0, Nat.div_eq_of_lt hR, Nat.add_zero]
      have h2 : R = dval ds % b := by rw [hv, Nat.mul_add_mod, Nat.mod_eq_of_lt hR]
      have HS1 := Lib.hid (h1 ▸ hs')
      have HS2 := Lib.hid (h2 ▸ HRS.out)
      clear hs' hv h1 h2
      go_wp2
      go_ret2
      exact ⟨s', rs, rfl, HS1.out, HS2.out, HB.out⟩
end Go.Proofs.YtekanlcfgfllcaaDoor
/- RefI -/
namespace Go.Proofs.YtekanlcfgfllcaaDoor
open Go.RowKit
theorem getD_map_mod (xs : List Nat) (k : Nat) : (xs.map (· % 1000000000)).getD k 0 = xs.getD k 0 % 1000000000 := by
  rw [List.getD, List.getD, List.getElem?_map]
  cases xs[k]? <;> rfl
theorem map_mod_id {xs : List Nat} (h : ∀ x ∈ xs, x < 1000000000) : xs.map (· % 1000000000) = xs := by
  conv => rhs; rw [← List.map_id xs]
  exact List.map_congr_left fun x hx => Nat.mod_eq_of_lt (h x hx)

end Go.Proofs.YtekanlcfgfllcaaDoor
/- Ans1 -/
namespace Go.Proofs.YtekanlcfgfllcaaDoor
open Go.RowKit
theorem limbs_new (w : World) (x : Nat) (hx : x < 4294967296) (E : Int) (hE : E = (x : Int)) : Limbs (w.alloc (.cells #[.int .u32 E] 49)) (some ⟨w.heap.size, 0, none⟩) 1 [x] := by
  subst hE
  refine ⟨⟨rfl, fun _ => ⟨_, rfl, by simp, ?_⟩⟩, by omega, by simpa using hx⟩
  exact cells_one w (.int .u32 (x : Int)) 49
theorem base_two : digs 1000000000 (val 1000000000 [999999999] + val 1000000000 [1]) = [0, 1] := by
  have h := trim_eq_digs 1000000000 (by omega) [0, 1] (by intro x hx; simp at hx; omega)
  have e : val 1000000000 [0, 1] = val 1000000000 [999999999] + val 1000000000 [1] := by simp only [val]
  rw [e] at h
  rw [← h]; rfl
theorem base_one : digs 1000000000 (val 1000000000 [0, 1] - val 1000000000 [1]) = [999999999] := by
  have h := trim_eq_digs 1000000000 (by omega) [999999999] (by intro x hx; simp at hx; omega)
  have e : val 1000000000 [999999999] = val 1000000000 [0, 1] - val 1000000000 [1] := by simp only [val]
  rw [e] at h
  rw [← h]; rfl
theorem base_lt : ∀ x ∈ [999999999], x < 1000000000 := by intro x hx; simp at hx; omega
theorem base_lt1 : ∀ x ∈ [1], x < 1000000000 := by intro x hx; simp at hx; omega
theorem base_lt2 : ∀ x ∈ [0, 1], x < 1000000000 := by intro x hx; simp at hx; omega
end Go.Proofs.YtekanlcfgfllcaaDoor
/- Ans2 -/
namespace Go.Proofs.YtekanlcfgfllcaaDoor
open Go.RowKit
/-- A list of limbs as an argument: its slice value's parts and what it reads. -/
structure Arg where
  A : Option Addr
  n : Nat
  c : Nat
  xs : List Nat
def Arg.v (t : Arg) : Value := .slice t.A t.n t.c
def Arg.fine (t : Arg) : Bool := decide (t.n ≤ 60) && t.xs.all (fun x => decide (x ≤ 999999999))
theorem Arg.fine_true {t : Arg} (h : t.fine = true) : t.n ≤ 60 ∧ ∀ x ∈ t.xs, x < 1000000000 := by
  simp only [Arg.fine, Bool.and_eq_true, decide_eq_true_eq, List.all_eq_true] at h
  exact ⟨h.1, fun x hx => by have := h.2 x hx; omega⟩
end Go.Proofs.YtekanlcfgfllcaaDoor
/- Args -/
namespace Go.Proofs.YtekanlcfgfllcaaDoor
open Go.RowKit
/-- Limbs that are a number of at most k limbs. -/
def Arg.fineL (k : Nat) (t : Arg) : Bool := decide (t.n ≤ k) && t.xs.all (fun x => decide (x ≤ 999999999))
theorem Arg.fineL_true {k : Nat} {t : Arg} (h : t.fineL k = true) : t.n ≤ k ∧ ∀ x ∈ t.xs, x < 1000000000 := by
  simp only [Arg.fineL, Bool.and_eq_true, decide_eq_true_eq, List.all_eq_true] at h
  exact ⟨h.1, fun x hx => by have := h.2 x hx; omega⟩
theorem limbs_cells2 (w : World) (x y : Nat) (hx : x < 4294967296) (hy : y < 4294967296) : Limbs (w.alloc (.cells #[.int .u32 (x : Int), .int .u32 (y : Int)] 49)) (some ⟨w.heap.size, 0, none⟩) 2 [x, y] := by
  refine ⟨⟨rfl, fun _ => ⟨_, rfl, by simp, ?_⟩⟩, by omega, by simp [hx, hy]⟩
  intro j u hu
  rcases j with _ | _ | j
  · rw [show (⟨w.heap.size, 0, none⟩ : Addr).add 0 = ⟨w.heap.size, 0, none⟩ by simp [Addr.add], World.cell?_alloc_at _ _ _ _ rfl]
    exact hu
  · rw [show (⟨w.heap.size, 0, none⟩ : Addr).add 1 = ⟨w.heap.size, 1, none⟩ by simp [Addr.add], World.cell?_alloc_at _ _ _ _ rfl]
    exact hu
  · simp [u32s] at hu
theorem limbs_none (W : World) : Limbs W none 0 [] := ⟨Reads.none_, by omega, by simp⟩
end Go.Proofs.YtekanlcfgfllcaaDoor
