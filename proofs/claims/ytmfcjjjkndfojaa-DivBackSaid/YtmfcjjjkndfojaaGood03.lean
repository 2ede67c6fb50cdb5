import Derived.Test.YtmfcjjjkndfojaaArgs
namespace Go.Proofs.Ytmfcjjjkndfojaa
open Go.RowKit
set_option maxHeartbeats 400000 in
set_option maxRecDepth 100000 in
theorem good03_c (b : Nat) (L : List Arg) (w : World) (hL : L.length ≤ 100) (hc : ∀ j t, L[j]? = some t → w.cell? ⟨b, j, none⟩ = some t.v) (hx : ∀ t ∈ L, Limbs w t.A t.n t.xs) :
    Calls Try.prog 8 #[.slice (some ⟨b, 0, none⟩) L.length L.length] w fun e w' => e = .returned (.bool (L.all (Arg.fineL 20))) ∧ w = w' := by
  have HC := Lib.hid hc
  have HX := Lib.hid hx
  clear hc hx
  generalize hm : L.length = m at hL
  have HM := Lib.hid hm
  clear hm
  go_enter Try.func8, Try.ntmps8
  go_wp2
  go_loop [3] (fun i => ∃ k : Nat, k ≤ m ∧ i = .int .i64 k ∧ ∀ j t, j < k → L[j]? = some t → t.fineL 20 = true) (fun i => m - (intOf i).toNat)
  case atStart => exact ⟨0, Nat.zero_le _, rfl, fun j _ hj => absurd hj (by omega)⟩
  case round =>
    obtain ⟨k, hk, rfl, hall0⟩ := hrel
    have hall := Lib.hid hall0
    clear hall0
    by_cases hlt : k < m
    · obtain ⟨t, ht⟩ : ∃ t, L[k]? = some t := ⟨L[k]'(by rw [HM.out]; exact hlt), List.getElem?_eq_getElem _⟩
      have hcell := HC.out k t ht
      have hlim := HX.out t (List.mem_of_getElem? ht)
      have HT := Lib.hid ht
      clear ht
      rcases t with ⟨A, n, c, xs⟩
      have hcell' : w.cell? ⟨b, k, none⟩ = some (.slice A n c) := hcell
      clear hcell
      have hn := hlim.2.1
      by_cases hbig : 20 < n
      · clear hlim
        go_wp2
        go_ret
        refine ⟨?_, rfl⟩
        have e : L.all (Arg.fineL 20) = false := by
          rw [List.all_eq_false]
          refine ⟨_, List.mem_of_getElem? HT.out, ?_⟩
          simp [Arg.fineL]; omega
        rw [e]; rfl
      · have CG := refGood_c A n c xs w hlim
        rcases hg : xs.all (fun x => decide (x ≤ 999999999)) with _ | _
        · rw [hg] at CG
          have HG := Lib.hid hg
          have HCG := Lib.hid CG
          clear CG hg hlim
          go_wp2_with fail
          refine HCG.out.mono ?_
          rintro e w' ⟨rfl, rfl⟩
          go_wp2
          go_ret
          refine ⟨?_, rfl⟩
          have e : L.all (Arg.fineL 20) = false := by
            rw [List.all_eq_false]
            refine ⟨_, List.mem_of_getElem? HT.out, ?_⟩
            rw [Arg.fineL, HG.out, Bool.and_false]; simp
          rw [e]; rfl
        · rw [hg] at CG
          have HG := Lib.hid hg
          have HCG := Lib.hid CG
          clear CG hg hlim
          go_wp2_with fail
          refine HCG.out.mono ?_
          rintro e w' ⟨rfl, rfl⟩
          go_wp2
          go_round
          case rel =>
            refine ⟨k + 1, by omega, by go_num, fun j t hj ht => ?_⟩
            rcases Nat.lt_or_ge j k with hjk | hjk
            · exact hall.out j t hjk ht
            · obtain rfl : j = k := by omega
              rw [HT.out] at ht
              simp only [Option.some.injEq] at ht
              subst ht
              rw [Arg.fineL, HG.out, Bool.and_true]
              simp; omega
          case measure => simp [intOf]; omega
    · obtain rfl : k = m := by omega
      go_wp2
      go_ret
      refine ⟨?_, rfl⟩
      have e : L.all (Arg.fineL 20) = true := by
        rw [List.all_eq_true]
        intro t ht
        obtain ⟨j, hj⟩ := List.getElem?_of_mem ht
        refine hall.out j t ?_ hj
        have := (List.getElem?_eq_some_iff.1 hj).1
        rw [HM.out] at this; exact this
      rw [e]; rfl
theorem good03_2_c (A A' : Option Addr) (n c n' c' : Nat) (xs ys : List Nat) (w : World) (h : Limbs w A n xs) (h' : Limbs w A' n' ys) :
    Calls Try.prog 8 #[.slice (some ⟨w.heap.size, 0, none⟩) 2 2] (w.alloc (.cells #[.slice A n c, .slice A' n' c'] 22))
      fun e w' => e = .returned (.bool ((Arg.mk A n c xs).fineL 20 && (Arg.mk A' n' c' ys).fineL 20)) ∧ w.alloc (.cells #[.slice A n c, .slice A' n' c'] 22) = w' := by
  have hb := (Below.refl w.heap.size w).alloc (Nat.le_refl _) (.cells #[.slice A n c, .slice A' n' c'] 22)
  have hg := good03_c w.heap.size [⟨A, n, c, xs⟩, ⟨A', n', c', ys⟩] (w.alloc (.cells #[.slice A n c, .slice A' n' c'] 22)) (by simp)
    (fun j t ht => by
      rw [World.cell?_alloc_at _ _ _ _ rfl]
      match j, ht with
      | 0, ht => simp at ht; subst ht; rfl
      | 1, ht => simp at ht; subst ht; rfl
      | (k + 2), ht => simp at ht)
    (fun t ht => by
      rcases List.mem_cons.1 ht with rfl | ht
      · exact h.below hb
      · rcases List.mem_cons.1 ht with rfl | ht
        · exact h'.below hb
        · simp at ht)
  simpa [List.all_cons] using hg
theorem good03_3_c (A A' A'' : Option Addr) (n c n' c' n'' c'' : Nat) (xs ys zs : List Nat) (w : World) (h : Limbs w A n xs) (h' : Limbs w A' n' ys) (h'' : Limbs w A'' n'' zs) :
    Calls Try.prog 8 #[.slice (some ⟨w.heap.size, 0, none⟩) 3 3] (w.alloc (.cells #[.slice A n c, .slice A' n' c', .slice A'' n'' c''] 22))
      fun e w' => e = .returned (.bool ((Arg.mk A n c xs).fineL 20 && ((Arg.mk A' n' c' ys).fineL 20 && (Arg.mk A'' n'' c'' zs).fineL 20))) ∧ w.alloc (.cells #[.slice A n c, .slice A' n' c', .slice A'' n'' c''] 22) = w' := by
  have hb := (Below.refl w.heap.size w).alloc (Nat.le_refl _) (.cells #[.slice A n c, .slice A' n' c', .slice A'' n'' c''] 22)
  have hg := good03_c w.heap.size [⟨A, n, c, xs⟩, ⟨A', n', c', ys⟩, ⟨A'', n'', c'', zs⟩] (w.alloc (.cells #[.slice A n c, .slice A' n' c', .slice A'' n'' c''] 22)) (by simp)
    (fun j t ht => by
      rw [World.cell?_alloc_at _ _ _ _ rfl]
      match j, ht with
      | 0, ht => simp at ht; subst ht; rfl
      | 1, ht => simp at ht; subst ht; rfl
      | 2, ht => simp at ht; subst ht; rfl
      | (k + 3), ht => simp at ht)
    (fun t ht => by
      rcases List.mem_cons.1 ht with rfl | ht
      · exact h.below hb
      · rcases List.mem_cons.1 ht with rfl | ht
        · exact h'.below hb
        · rcases List.mem_cons.1 ht with rfl | ht
          · exact h''.below hb
          · simp at ht)
  simpa [List.all_cons] using hg
theorem good03_1_c (A : Option Addr) (n c : Nat) (xs : List Nat) (w : World) (h : Limbs w A n xs) :
    Calls Try.prog 8 #[.slice (some ⟨w.heap.size, 0, none⟩) 1 1] (w.alloc (.cells #[.slice A n c] 22))
      fun e w' => e = .returned (.bool ((Arg.mk A n c xs).fineL 20)) ∧ w.alloc (.cells #[.slice A n c] 22) = w' := by
  have hb := (Below.refl w.heap.size w).alloc (Nat.le_refl _) (.cells #[.slice A n c] 22)
  have hg := good03_c w.heap.size [⟨A, n, c, xs⟩] (w.alloc (.cells #[.slice A n c] 22)) (by simp)
    (fun j t ht => by
      rw [World.cell?_alloc_at _ _ _ _ rfl]
      match j, ht with
      | 0, ht => simp at ht; subst ht; rfl
      | (k + 1), ht => simp at ht)
    (fun t ht => by
      rcases List.mem_cons.1 ht with rfl | ht
      · exact h.below hb
      · simp at ht)
  simpa [List.all_cons] using hg
end Go.Proofs.Ytmfcjjjkndfojaa
