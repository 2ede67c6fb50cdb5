/-
  PF: what stands behind a number; cut.
-/
import Derived.Test.YtbjelkejifgnfaaGreatDoorPE
set_option maxRecDepth 100000
namespace Go.Proofs.YtbjelkejifgnfaaGreatDoor
open Go.RowKit
def bh2 (L : List El) : List El := match L with
  | [] => []
  | f :: c => if plE 43 f then c.dropWhile bdy else (f :: c).dropWhile bdy
theorem bhd_nil {es : List El} (h : es.dropWhile bdy = []) : bhd es = [] := by unfold bhd; rw [h]
theorem bhd_no {es L : List El} {e : El} (h : es.dropWhile bdy = e :: L) (h9 : plE 69 e = false) : bhd es = e :: L := by
  unfold bhd; rw [h]; dsimp only; rw [h9]; rfl
theorem bhd_yes {es L : List El} {e : El} (h : es.dropWhile bdy = e :: L) (h9 : plE 69 e = true) : bhd es = bh2 L := by
  unfold bhd; rw [h]; dsimp only; rw [h9]; rfl
theorem bh2_no {L : List El} (h : hdE (plE 43) L = false) : bh2 L = L.dropWhile bdy := by
  cases L with
  | nil => rfl
  | cons f c =>
    have : plE 43 f = false := by simpa [hdE] using h
    show (if plE 43 f then _ else _) = _
    rw [this]; rfl
theorem bh2_yes {L : List El} {f : El} (h : plE 43 f = true) : bh2 (f :: L) = L.dropWhile bdy := by
  show (if plE 43 f then _ else _) = _
  rw [h]; rfl
theorem sl1_el (ad : Addr) (n c : Nat) (h0 : 0 < n) (_hc : n ≤ c) : ∃ a', (∀ W, (Instr.slice 47 (.slice (some ad) n c) (some (.int .i64 1)) none none).run Tryz.prog W = .ok (.slice (some a') (n - 1) (c - 1)) W) ∧ (c = 1 ∨ a' = ad.add 1) := by
  refine ⟨if c = 1 then ad else ad.add 1, fun W => ?_, ?_⟩
  · rw [run_slice_l W _ (some ad) n c (by rw [Tryz.underlying47]; kernel_rfl) .i64 1 (by omega) (by omega)]
    have e : (sizeOf (Tryz.prog.elem 47)).run Tryz.prog W = .ok 1 W := by kernel_rfl
    rw [e]
    show Result.ok (sliced (some ad) 1 n c 1) W = _
    unfold sliced
    by_cases h : c = 1
    · rw [if_pos h, if_pos h]
    · rw [if_neg h, if_neg h]; rfl
  · by_cases h : c = 1
    · exact .inl h
    · rw [if_neg h]; exact .inr rfl
set_option maxHeartbeats 2000000 in
theorem behindNum_c {D : Nat} (A : Option Addr) (n c : Nat) (es : List El) (w : World) (h : Pls w D A n es) (hc : Cp A n c) :
    Calls Tryz.prog 57 #[.slice A n c] w fun x w' => ∃ A2 n2 c2, x = .returned (.slice A2 n2 c2) ∧ Hid (Pls w' D A2 n2 (bhd es)) ∧ Cp A2 n2 c2 ∧ Hid (Below w.heap.size w w') := by
  have HR := Lib.hid (behindRow_c A n c es w h hc)
  have HZ := Lib.hid h.z
  clear h
  generalize hX : bhd es = X
  have HZ1 : Hid (∀ e ∈ es.dropWhile bdy, isZ e.1.1 = true) := Lib.hid fun e he => HZ.out e ((List.dropWhile_suffix _).subset he)
  generalize hL : es.dropWhile bdy = L1 at HR HZ1
  have HBE := Lib.hid (fun (A1 : Option Addr) (n1 c1 : Nat) (W : World) (h : Pls W D A1 n1 L1) => begins_c ⟨#[69]⟩ (plE 69) A1 n1 c1 L1 W h (lo_lit (by decide)) (by decide) fun e he => cls_one 69 (HZ1.out e he))
  have HBP := Lib.hid (fun (A1 : Option Addr) (n1 c1 : Nat) (L : List El) (W : World) (h : Pls W D A1 n1 L) => begins_c ⟨#[43]⟩ (plE 43) A1 n1 c1 L W h (lo_lit (by decide)) (by decide) fun e he => cls_one 43 (h.z e he))
  clear HZ HZ1
  cases L1 with
  | nil =>
    have hE : hdE (plE 69) [] = false := rfl
    rw [hE] at HBE
    rw [bhd_nil hL] at hX
    subst hX
    clear hE hL
    go_enter Tryz.func57, Tryz.ntmps57
    go_wp2_with (first
      | (go_at_call 73; refine HR.out.mono ?_; rintro e w1 ⟨A1, n1, c1, rfl, h1, hc1, hb1⟩)
      | (go_at_call 74; refine (HBE.out _ _ _ _ h1.out).mono ?_; rintro e w2 ⟨rfl, hb2⟩)
      | fail)
    go_ret
    exact ⟨_, _, _, rfl, Lib.hid (h1.out.below hb2), hc1, Lib.hid (hb1.out.trans (hb2.mono hb1.out.size))⟩
  | cons e L2 =>
    have hE : hdE (plE 69) (e :: L2) = plE 69 e := by simp [hdE]
    rw [hE] at HBE
    clear hE
    cases h69 : plE 69 e with
    | false =>
      rw [h69] at HBE
      rw [bhd_no hL h69] at hX
      subst hX
      clear h69 hL
      go_enter Tryz.func57, Tryz.ntmps57
      go_wp2_with (first
        | (go_at_call 73; refine HR.out.mono ?_; rintro e w1 ⟨A1, n1, c1, rfl, h1, hc1, hb1⟩)
        | (go_at_call 74; refine (HBE.out _ _ _ _ h1.out).mono ?_; rintro e w2 ⟨rfl, hb2⟩)
        | fail)
      go_ret
      exact ⟨_, _, _, rfl, Lib.hid (h1.out.below hb2), hc1, Lib.hid (hb1.out.trans (hb2.mono hb1.out.size))⟩
    | true =>
      rw [h69] at HBE
      rw [bhd_yes hL h69] at hX
      clear h69 hL
      go_enter Tryz.func57, Tryz.ntmps57
      go_upto_region 4 with (first
        | (go_at_call 73; refine HR.out.mono ?_; rintro e w1 ⟨A1, n1, c1, rfl, h1, hc1, hb1⟩)
        | (go_at_call 74; refine (HBE.out _ _ _ _ h1.out).mono ?_; rintro e w2 ⟨rfl, hb2⟩)
        | fail)
      obtain ⟨ad, rfl, h0⟩ := pls_none h1.out
      obtain ⟨t1, t2⟩ := (h1.out.below hb2).tail
      have HBW := Lib.hid (hb1.out.trans (hb2.mono hb1.out.size))
      have HT := Lib.hid t1
      obtain ⟨a', HS, HA'⟩ := sl1_el ad n1 c1 h0 hc1.1
      have HT' : Hid (Pls w2 D (some a') (n1 - 1) L2) := Lib.hid (by
        rcases HA' with h | rfl
        · have := hc1.1
          rw [t2 (by omega), show n1 - 1 = 0 by omega]; exact t1.nil _
        · exact t1)
      have hc1' : Cp (some a') (n1 - 1) (c1 - 1) := Cp.some (by have := hc1.1; omega)
      clear HA' t1 t2
      generalize n1 - 1 = n2 at *
      generalize c1 - 1 = c2 at *
      cases h43 : hdE (plE 43) L2 with
      | false =>
        rw [bh2_no h43] at hX
        subst hX
        have HBP2 := Lib.hid (HBP.out (some a') n2 c2 L2 w2 HT'.out)
        rw [h43] at HBP2
        clear h43 HBP
        have HR2 := Lib.hid (fun W (hb : Below w2.heap.size w2 W) => behindRow_c (some a') n2 c2 L2 W (HT'.out.below hb) hc1')
        go_wp2_with (first
          | (go_at_call 74; refine HBP2.out.mono ?_; rintro e w3 ⟨rfl, hb3⟩)
          | (go_at_call 73; refine (HR2.out _ hb3).mono ?_; rintro e w4 ⟨A5, n5, c5, rfl, h5, hc5, hb5⟩)
          | fail)
        go_ret
        exact ⟨_, _, _, rfl, h5, hc5, Lib.hid (HBW.out.trans ((hb3.trans (hb5.out.mono hb3.size)).mono HBW.out.size))⟩
      | true =>
        cases L2 with
        | nil => exact absurd h43 (by decide)
        | cons f L3 =>
          have hf : plE 43 f = true := by simpa [hdE] using h43
          rw [bh2_yes hf] at hX
          subst hX
          have HBP2 := Lib.hid (HBP.out (some a') n2 c2 _ w2 HT'.out)
          rw [h43] at HBP2
          clear h43 HBP hf
          obtain ⟨-, -, hz2⟩ := pls_none HT'.out
          obtain ⟨a3, HS3, HA3⟩ := sl1_el a' n2 c2 hz2 hc1'.1
          obtain ⟨t1, t2⟩ := HT'.out.tail
          have HT3 : Hid (Pls w2 D (some a3) (n2 - 1) L3) := Lib.hid (by
            rcases HA3 with h | rfl
            · have := hc1'.1
              rw [t2 (by omega), show n2 - 1 = 0 by omega]; exact t1.nil _
            · exact t1)
          have hc3 : Cp (some a3) (n2 - 1) (c2 - 1) := Cp.some (by have := hc1'.1; omega)
          clear HA3 t1 t2
          generalize n2 - 1 = n3 at *
          generalize c2 - 1 = c3 at *
          have HR2 := Lib.hid (fun W (hb : Below w2.heap.size w2 W) => behindRow_c (some a3) n3 c3 L3 W (HT3.out.below hb) hc3)
          go_wp2_with (first
            | (go_at_call 74; refine HBP2.out.mono ?_; rintro e w3 ⟨rfl, hb3⟩)
            | (go_at_call 73; refine (HR2.out _ hb3).mono ?_; rintro e w4 ⟨A5, n5, c5, rfl, h5, hc5, hb5⟩)
            | fail)
          go_ret
          exact ⟨_, _, _, rfl, h5, hc5, Lib.hid (HBW.out.trans ((hb3.trans (hb5.out.mono hb3.size)).mono HBW.out.size))⟩
end Go.Proofs.YtbjelkejifgnfaaGreatDoor
