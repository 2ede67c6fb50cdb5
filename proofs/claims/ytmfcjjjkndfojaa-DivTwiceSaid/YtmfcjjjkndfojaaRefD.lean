import Derived.Test.YtmfcjjjkndfojaaRefC
namespace Go.Proofs.Ytmfcjjjkndfojaa
open Go.RowKit
/-- Digits as bytes. -/
def asc (os : List Nat) : List Nat := os.map (fun d => 48 + d)
theorem asc_append (a b : List Nat) : asc (a ++ b) = asc a ++ asc b := by simp [asc]
theorem asc_lt (os : List Nat) (h : ∀ d ∈ os, d < 10) : ∀ x ∈ asc os, x < 256 := by
  intro x hx
  obtain ⟨d, hd, rfl⟩ := List.mem_map.1 hx
  have := h d hd
  omega
theorem val_snoc (b : Nat) (os : List Nat) (x : Nat) : val b (os ++ [x]) = val b os + b ^ os.length * x := by simp [val_append, val]
theorem rev_getD_lt (ds : List Nat) (h : ∀ d ∈ ds, d < 10) (k : Nat) : ds.reverse.getD k 0 < 10 :=
  getD_lt 10 (by omega) _ (fun x hx => h x (List.mem_reverse.1 hx)) k
theorem rev_getD_zero (ds : List Nat) (k : Nat) (h : ds.length ≤ k) : ds.reverse.getD k 0 = 0 := by
  rw [List.getD, List.getElem?_eq_none (by simpa using h)]; rfl
/-- turned and Strip, one behind the other. -/
theorem isD_of_asc {s : ByteArray} {os : List Nat} (h : s.data.toList.map UInt8.toNat = (asc os).reverse) (hd : ∀ d ∈ os, d < 10) : IsD s os.reverse := by
  refine ⟨?_, fun d hd' => hd d (List.mem_reverse.1 hd')⟩
  rw [h, asc, List.map_reverse]
set_option maxHeartbeats 800000 in
theorem plus_c (s t : ByteArray) (ds es : List Nat) (w : World) (h : IsD s ds) (h' : IsD t es) (hs : s.size ≤ 100000000) (ht : t.size ≤ 100000000) :
    Calls Try.prog 17 #[.string s, .string t] w fun e w' => ∃ s', e = .returned (.string s') ∧ IsD s' (decs (dval ds + dval es)) ∧ Below w.heap.size w w' := by
  have hl := Lib.hid h.size
  have hl' := Lib.hid h'.size
  have H := Lib.hid h
  have H' := Lib.hid h'
  clear h h'
  generalize hg : w.heap.size = g at *
  have Hg := Lib.hid hg
  clear hg
  go_enter Try.func17, Try.ntmps17
  go_wp2
  go_loopw [5, 6, 7, 8] (fun v cy i _ wr => ∃ (k cr : Nat) (os : List Nat), i = .int .i64 (k : Int) ∧ cy = .int .i64 (cr : Int) ∧ k ≤ max s.size t.size + 1 ∧ cr ≤ 1 ∧ (max s.size t.size < k → cr = 0) ∧
      wr.ownsRow g 5 1 v k (u8s (asc os)) ∧ os.length = k ∧ (∀ d ∈ os, d < 10) ∧ val 10 os + 10 ^ k * cr = val 10 (ds.reverse.take k) + val 10 (es.reverse.take k) ∧ Below g w wr) (fun _ _ i _ _ => max s.size t.size + 1 - (intOf i).toNat)
  case atStart => exact ⟨0, 0, [], rfl, rfl, by omega, by omega, fun _ => rfl, World.ownsRow_nil _ _ _ _, rfl, by simp, rfl, Below.refl _ _⟩
  case round =>
    obtain ⟨k, cr, os, rfl, rfl, hk, hcr, hov0, hown0, hlen0, hd0, hv0, hb0⟩ := hrel
    have HOV := Lib.hid hov0
    have HO := Lib.hid hown0
    have HLEN := Lib.hid hlen0
    have HD := Lib.hid hd0
    have HV := Lib.hid hv0
    have HB := Lib.hid hb0
    have hsz : g ≤ wr.heap.size := by have := hb0.size; have e := Hg.out; omega
    have hkb : k ≤ 100000001 := by omega
    clear hov0 hown0 hlen0 hd0 hv0 hb0
    have hX := rev_getD_lt ds H.out.2 k
    have hY := rev_getD_lt es H'.out.2 k
    have hX0 := Lib.hid (rev_getD_zero ds k)
    have hY0 := Lib.hid (rev_getD_zero es k)
    have hv1 := Lib.hid (val_take_succ 10 ds.reverse k)
    have hv2 := Lib.hid (val_take_succ 10 es.reverse k)
    have C1 := fun W => digit_c s ds W (k : Int) (by omega) (by omega) H.out (by omega)
    have C2 := fun W => digit_c t es W (k : Int) (by omega) (by omega) H'.out (by omega)
    simp only [Int.toNat_natCast] at C1 C2
    generalize ds.reverse.getD k 0 = X at C1 hX hX0 hv1
    generalize es.reverse.getD k 0 = Y at C2 hY hY0 hv2
    have HC1 := Lib.hid C1
    have HC2 := Lib.hid C2
    clear C1 C2
    have hfacts := Lib.hid hk
    clear hk
    have hk1 := Lib.hid (show k < s.size ∨ k < t.size ∨ 0 < cr → k ≤ max s.size t.size by
      rintro (hh | hh | hh)
      · omega
      · omega
      · rcases Nat.lt_or_ge (max s.size t.size) k with h0 | h0
        · have := HOV.out h0; omega
        · exact h0)
    have hnext := Lib.hid (show max s.size t.size < k + 1 → (X + Y + cr) / 10 = 0 by
      intro hh
      have e1 := hX0.out (by have := hl.out; omega)
      have e2 := hY0.out (by have := hl'.out; omega)
      omega)
    rcases (by omega : (¬ k < s.size ∧ ¬ k < t.size ∧ ¬ 0 < cr) ∨ k < s.size ∨ (¬ k < s.size ∧ k < t.size) ∨ (¬ k < s.size ∧ ¬ k < t.size ∧ 0 < cr)) with ⟨h1, h2, h3⟩ | h1 | ⟨h1, h2⟩ | ⟨h1, h2, h3⟩
    · go_wp2_with fail
      obtain ⟨A, c, hA⟩ := own_form HO.out
      subst hA
      refine (turned_c A k c (asc os) wr (Bytes.of_own HO.out (by omega) (asc_lt os HD.out))).mono ?_
      rintro e w1 ⟨s1, rfl, hs1, hb1⟩
      have HS1 := Lib.hid (isD_of_asc hs1 HD.out)
      have HB1 := Lib.hid hb1
      have hs1z : s1.size ≤ 1000000000 := by rw [HS1.out.size, List.length_reverse, HLEN.out]; omega
      clear hs1 hb1
      go_wp2_with fail
      refine (strip_c s1 os.reverse w1 HS1.out hs1z).mono ?_
      rintro e w2 ⟨s2, rfl, hs2, rfl⟩
      have HS2 := Lib.hid hs2
      clear hs2
      go_wp2
      go_ret
      refine ⟨s2, rfl, ?_, HB.out.trans (HB1.out.mono hsz)⟩
      have e1 := HV.out
      have e2 : cr = 0 := by omega
      rw [e2, Nat.mul_zero, Nat.add_zero, List.take_of_length_le (by simp [← hl.out]; omega), List.take_of_length_le (by simp [← hl'.out]; omega)] at e1
      have e3 : dval os.reverse = dval ds + dval es := by rw [dval, List.reverse_reverse, e1]; rfl
      rw [← e3]; exact HS2.out
    all_goals
      go_wp2_with fail
      refine (HC1.out _).mono ?_
      rintro e w' ⟨rfl, rfl⟩
      go_wp2_with fail
      refine (HC2.out _).mono ?_
      rintro e w' ⟨rfl, rfl⟩
      go_wp2_with (at_builtin; go_must (refine wpList_app_u8 rfl (.tmp 34) (.tmp 39) _ rfl Try.underlying46 g u5 k _ rfl HO.out _ rfl (48 + (X + Y + cr) % 10) (by omega) (by omega) HB.out hsz ?_))
      intro v' w' ho1 hb1
      go_wp2
      go_roundw
      case rel =>
        refine ⟨k + 1, (X + Y + cr) / 10, os ++ [(X + Y + cr) % 10], by go_num, by congr 1, by have := hk1.out (by omega); omega, by omega, hnext.out, ?_, by simp [HLEN.out], ?_, ?_, hb1.out⟩
        · rw [asc_append]; exact ho1.out
        · intro d hd
          rcases List.mem_append.1 hd with hd | hd
          · exact HD.out d hd
          · rw [List.mem_singleton.1 hd]; omega
        · rw [val_snoc, HLEN.out, hv1.out, hv2.out, Nat.pow_succ]
          exact add_step 10 (10 ^ k) _ _ _ X Y cr _ _ HV.out (by omega)
      case measure =>
        have := hk1.out (by omega)
        simp [intOf]; omega
end Go.Proofs.Ytmfcjjjkndfojaa
