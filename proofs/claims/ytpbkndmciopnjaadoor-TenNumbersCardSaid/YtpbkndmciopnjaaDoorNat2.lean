import Derived.Test.YtpbkndmciopnjaaDoorNat1
namespace Go.Proofs.YtpbkndmciopnjaaDoor
open Go.RowKit
set_option maxHeartbeats 400000 in
theorem same_c (A A' : Option Addr) (n c n' c' : Nat) (xs ys : List Nat) (w : World) (h : Limbs w A n xs) (h' : Limbs w A' n' ys) :
    Calls Tryd.prog 15 #[.slice A n c, .slice A' n' c'] w fun e w' => e = .returned (.bool (decide (xs = ys))) ∧ Below w.heap.size w w' := by
  have hn := h.2.1
  have hn' := h'.2.1
  have hl := Lib.hid h.len
  have hl' := Lib.hid h'.len
  have H := Lib.hid h
  have H' := Lib.hid h'
  clear h h'
  by_cases hne : n = n'
  · subst hne
    go_enter Tryd.func15, Tryd.ntmps15
    go_wp2
    go_loopw [5] (fun i wr => ∃ k m : Nat, k ≤ n ∧ i = .int .i64 k ∧ wr = w.drewN m ∧ ∀ j, j < k → xs.getD j 0 = ys.getD j 0) (fun i _ => n - (intOf i).toNat)
    case atStart => exact ⟨0, 0, Nat.zero_le _, rfl, rfl, fun j hj => absurd hj (by omega)⟩
    case round =>
      obtain ⟨k, m, hk, rfl, rfl, hall0⟩ := hrel
      have hall := Lib.hid hall0
      clear hall0
      by_cases hlt : k < n
      · obtain ⟨ad, rfl, hb, hc, hx⟩ := H.out.at_ hlt
        obtain ⟨ad', rfl, hb', hc', hx'⟩ := H'.out.at_ hlt
        go_wp2
        go_quiet (fail)
        go_wp2
        · have hd : (((xs[k]?.getD 0 : Nat) : Int) != ((ys[k]?.getD 0 : Nat) : Int)) = true := by assumption
          go_ret
          refine ⟨?_, ((Below.refl _ _).of_drewN _).of_drewN _⟩
          have : decide (xs = ys) = false := by
            simp only [decide_eq_false_iff_not]
            rintro rfl
            simp at hd
          rw [this]; rfl
        · have hd : (((xs[k]?.getD 0 : Nat) : Int) != ((ys[k]?.getD 0 : Nat) : Int)) = false := by assumption
          go_roundw
          case rel =>
            refine ⟨k + 1, _, by omega, by go_num, rfl, fun j hj => ?_⟩
            rcases Nat.lt_or_ge j k with hjk | hjk
            · exact hall.out j hjk
            · obtain rfl : j = k := by omega
              rw [List.getD, List.getD]
              have : ((xs[j]?.getD 0 : Nat) : Int) = ((ys[j]?.getD 0 : Nat) : Int) := by simpa using hd
              omega
          case measure => simp [intOf]; omega
      · go_wp2
        go_ret
        refine ⟨?_, (Below.refl _ _).of_drewN _⟩
        have : decide (xs = ys) = true := by
          simp only [decide_eq_true_eq]
          exact list_ext_getD (by rw [hl.out, hl'.out]) (fun j hj => hall.out j (by rw [hl.out] at hj; omega))
        rw [this]; rfl
  · have hb : (((n : Nat) : Int) != (n' : Int)) = true := by simp; omega
    go_enter Tryd.func15, Tryd.ntmps15
    go_wp2
    go_ret
    refine ⟨?_, Below.refl _ _⟩
    have : decide (xs = ys) = false := by
      simp only [decide_eq_false_iff_not]
      intro e; apply hne; rw [← hl.out, ← hl'.out, e]
    rw [this]; rfl
/-- What Cmp answers. -/
def cmpI (a b : Nat) : Int := if a < b then -1 else if b < a then 1 else 0
theorem cmpI_of_lt {a b : Nat} (h : a < b) : cmpI a b = -1 := by simp [cmpI, h]
theorem cmpI_of_gt {a b : Nat} (h : b < a) : cmpI a b = 1 := by rw [cmpI, if_neg (by omega), if_pos h]
theorem cmpI_of_eq {a b : Nat} (h : a = b) : cmpI a b = 0 := by rw [cmpI, if_neg (by omega), if_neg (by omega)]
end Go.Proofs.YtpbkndmciopnjaaDoor
