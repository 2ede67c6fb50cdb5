/-
  PU: upTo, at its three sorts.
-/
import Derived.Test.YtbjelkejifgnfaaGreatDoorPD
set_option maxRecDepth 100000
namespace Go.Proofs.YtbjelkejifgnfaaGreatDoor
open Go.RowKit
theorem tw_at {α : Type} {p : α → Bool} {l : List α} {k : Nat} (hk : k < l.length) (h : ∀ j (hj : j < l.length), j < k → p l[j] = true) (hn : p l[k] = false) : l.takeWhile p = l.take k ∧ l.dropWhile p = l.drop k := by
  induction l generalizing k with
  | nil => simp at hk
  | cons x l ih =>
    cases k with
    | zero =>
      have : p x = false := hn
      simp [this]
    | succ k =>
      have h0 : p x = true := h 0 (by simp) (by omega)
      have := ih (k := k) (by simpa using hk) (fun j hj hjk => h (j + 1) (by simpa using hj) (by omega)) hn
      simp [h0, this.1, this.2]
theorem tw_none {α : Type} {p : α → Bool} {l : List α} (h : ∀ j (hj : j < l.length), p l[j] = true) : l.takeWhile p = l ∧ l.dropWhile p = [] := by
  induction l with
  | nil => exact ⟨rfl, rfl⟩
  | cons x l ih =>
    have h0 : p x = true := h 0 (by simp)
    have := ih fun j hj => h (j + 1) (by simpa using hj)
    simp [h0, this.1, this.2]
set_option maxHeartbeats 2000000 in
theorem upToOf_h (B : Nat) (P : El → Bool) {D : Nat} (A : Option Addr) (n c : Nat) (es : List El) (w : World) (h : Pls w D A n es) (hcp : Cp A n c)
    (HC : ∀ e ∈ es, ∀ W, Below w.heap.size w W → Calls Tryz.prog 56 #[pE e, .pointer (some ⟨B, 0, none⟩)] W fun x w' => x = .returned (.bool (P e)) ∧ Below W.heap.size W w') :
    Calls Tryz.prog 38 #[.slice A n c, .func (.func 56) #[] #[.pointer (some ⟨B, 0, none⟩)]] w fun x w' =>
      ∃ A1 n1 c1 A2 n2 c2, x = .returned (.tuple #[.slice A1 n1 c1, .slice A2 n2 c2]) ∧ Hid (Pls w' D A1 n1 (es.takeWhile fun e => !P e)) ∧ Hid (Pls w' D A2 n2 (es.dropWhile fun e => !P e)) ∧ Cp A1 n1 c1 ∧ Cp A2 n2 c2 ∧ Hid (Below w.heap.size w w') := by
  have hc := hcp.1
  have HL := Lib.hid h.len
  have hn := h.2.2.1
  have H := Lib.hid h
  have HCC := Lib.hid HC
  clear h HC
  go_enter Tryz.func38, Tryz.ntmps38
  go_wp2
  go_loopw [10] (fun iv wr => ∃ (k : Nat), k ≤ n ∧ iv = .int .i64 (k : Int) ∧ (∀ j (hj : j < es.length), j < k → P es[j] = false) ∧ Below w.heap.size w wr) (fun iv _ => n - (intOf iv).toNat)
  case atStart => exact ⟨0, Nat.zero_le _, rfl, fun j _ hj => absurd hj (by omega), Below.refl _ _⟩
  case round =>
    obtain ⟨k, hk, rfl, hall0, hb0⟩ := hrel
    have HA := Lib.hid hall0
    have HB := Lib.hid hb0
    have HW := Lib.hid (H.out.below hb0)
    clear hall0 hb0
    by_cases hlt : k < n
    · have hks : k < es.length := by rw [HL.out]; exact hlt
      obtain ⟨ad, rfl, hb, c0, hz⟩ := HW.out.at_ hlt
      rw [el4_eq hks] at c0 hz
      have HCk := Lib.hid (HCC.out es[k] (List.getElem_mem hks))
      obtain ⟨T, y, hT⟩ := pE_form es[k]
      rw [hT] at c0 HCk
      have HP := Lib.hid (show P es[k] = P es[k] from rfl)
      generalize hpk : P es[k] = pk at HCk HP
      have HPK := Lib.hid hpk
      clear hpk hT
      cases pk
      · go_wp2_with (first
          | (go_at_call 56; refine (HCk.out _ HB.out).mono ?_; rintro e w1 ⟨rfl, hb1⟩)
          | fail)
        go_roundw
        case rel =>
          refine ⟨k + 1, by omega, by go_num, fun j hj hjk => ?_, HB.out.trans (hb1.mono HB.out.size)⟩
          rcases Nat.lt_or_ge j k with h1 | h1
          · exact HA.out j hj h1
          · obtain rfl : j = k := by omega
            exact HPK.out
        case measure => simp [intOf]; omega
      · have HT := Lib.hid (tw_at (p := fun e => !P e) hks (fun j hj hjk => by simp [HA.out j hj hjk]) (by simp [HPK.out]))
        go_wp2_with (first
          | (go_at_call 56; refine (HCk.out _ HB.out).mono ?_; rintro e w1 ⟨rfl, hb1⟩)
          | fail)
        go_quiet (fail)
        go_wp2
        go_ret2
        rw [HT.out.1, HT.out.2]
        have HX := HW.out.below hb1
        exact ⟨_, _, _, _, _, _, rfl, Lib.hid ((HX.below ((Below.refl _ _).of_drewN _)).take hk), Lib.hid ((HX.below ((Below.refl _ _).of_drewN _)).drop hlt), Cp.some (by omega), Cp.some (by omega), Lib.hid ((HB.out.trans (hb1.mono HB.out.size)).of_drewN _)⟩
    · have hke : k = n := by omega
      subst hke
      have HT := Lib.hid (tw_none (p := fun e => !P e) (l := es) (fun j hj => by simp [HA.out j hj (by rw [HL.out] at hj; exact hj)]))
      go_wp2
      go_ret2
      rw [HT.out.1, HT.out.2]
      exact ⟨_, _, _, _, _, _, rfl, HW, Lib.hid (HW.out.nil _), hcp, Cp.nil, HB⟩
set_option maxHeartbeats 2000000 in
theorem upToRow_h (P : El → Bool) {D : Nat} (A : Option Addr) (n c : Nat) (es : List El) (w : World) (h : Pls w D A n es) (hcp : Cp A n c)
    (HC : ∀ e ∈ es, ∀ W, Below w.heap.size w W → Calls Tryz.prog 99 #[pE e] W fun x w' => x = .returned (.bool (P e)) ∧ Below W.heap.size W w') :
    Calls Tryz.prog 38 #[.slice A n c, .func (.func 99) #[] #[]] w fun x w' =>
      ∃ A1 n1 c1 A2 n2 c2, x = .returned (.tuple #[.slice A1 n1 c1, .slice A2 n2 c2]) ∧ Hid (Pls w' D A1 n1 (es.takeWhile fun e => !P e)) ∧ Hid (Pls w' D A2 n2 (es.dropWhile fun e => !P e)) ∧ Cp A1 n1 c1 ∧ Cp A2 n2 c2 ∧ Hid (Below w.heap.size w w') := by
  have hc := hcp.1
  have HL := Lib.hid h.len
  have hn := h.2.2.1
  have H := Lib.hid h
  have HCC := Lib.hid HC
  clear h HC
  go_enter Tryz.func38, Tryz.ntmps38
  go_wp2
  go_loopw [10] (fun iv wr => ∃ (k : Nat), k ≤ n ∧ iv = .int .i64 (k : Int) ∧ (∀ j (hj : j < es.length), j < k → P es[j] = false) ∧ Below w.heap.size w wr) (fun iv _ => n - (intOf iv).toNat)
  case atStart => exact ⟨0, Nat.zero_le _, rfl, fun j _ hj => absurd hj (by omega), Below.refl _ _⟩
  case round =>
    obtain ⟨k, hk, rfl, hall0, hb0⟩ := hrel
    have HA := Lib.hid hall0
    have HB := Lib.hid hb0
    have HW := Lib.hid (H.out.below hb0)
    clear hall0 hb0
    by_cases hlt : k < n
    · have hks : k < es.length := by rw [HL.out]; exact hlt
      obtain ⟨ad, rfl, hb, c0, hz⟩ := HW.out.at_ hlt
      rw [el4_eq hks] at c0 hz
      have HCk := Lib.hid (HCC.out es[k] (List.getElem_mem hks))
      obtain ⟨T, y, hT⟩ := pE_form es[k]
      rw [hT] at c0 HCk
      have HP := Lib.hid (show P es[k] = P es[k] from rfl)
      generalize hpk : P es[k] = pk at HCk HP
      have HPK := Lib.hid hpk
      clear hpk hT
      cases pk
      · go_wp2_with (first
          | (go_at_call 99; refine (HCk.out _ HB.out).mono ?_; rintro e w1 ⟨rfl, hb1⟩)
          | fail)
        go_roundw
        case rel =>
          refine ⟨k + 1, by omega, by go_num, fun j hj hjk => ?_, HB.out.trans (hb1.mono HB.out.size)⟩
          rcases Nat.lt_or_ge j k with h1 | h1
          · exact HA.out j hj h1
          · obtain rfl : j = k := by omega
            exact HPK.out
        case measure => simp [intOf]; omega
      · have HT := Lib.hid (tw_at (p := fun e => !P e) hks (fun j hj hjk => by simp [HA.out j hj hjk]) (by simp [HPK.out]))
        go_wp2_with (first
          | (go_at_call 99; refine (HCk.out _ HB.out).mono ?_; rintro e w1 ⟨rfl, hb1⟩)
          | fail)
        go_quiet (fail)
        go_wp2
        go_ret2
        rw [HT.out.1, HT.out.2]
        have HX := HW.out.below hb1
        exact ⟨_, _, _, _, _, _, rfl, Lib.hid ((HX.below ((Below.refl _ _).of_drewN _)).take hk), Lib.hid ((HX.below ((Below.refl _ _).of_drewN _)).drop hlt), Cp.some (by omega), Cp.some (by omega), Lib.hid ((HB.out.trans (hb1.mono HB.out.size)).of_drewN _)⟩
    · have hke : k = n := by omega
      subst hke
      have HT := Lib.hid (tw_none (p := fun e => !P e) (l := es) (fun j hj => by simp [HA.out j hj (by rw [HL.out] at hj; exact hj)]))
      go_wp2
      go_ret2
      rw [HT.out.1, HT.out.2]
      exact ⟨_, _, _, _, _, _, rfl, HW, Lib.hid (HW.out.nil _), hcp, Cp.nil, HB⟩
end Go.Proofs.YtbjelkejifgnfaaGreatDoor
