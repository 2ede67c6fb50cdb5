import Derived.Test.YtpbkndmciopnjaaDoorNat4
import Derived.Test.YtpbkndmciopnjaaDoorDig
namespace Go.Proofs.YtpbkndmciopnjaaDoor
open Go.RowKit
set_option maxHeartbeats 400000 in
theorem strip_big (s : ByteArray) (ds : List Nat) (w : World) (h : IsD s ds) (hs : s.size ≤ 1000000000000000) :
    Calls Tryd.prog 17 #[.string s] w fun e w' => ∃ s', e = .returned (.string s') ∧ IsD s' (decs (dval ds)) ∧ w = w' := by
  have hl := Lib.hid h.size
  have H := Lib.hid h
  clear h
  go_enter Tryd.func17, Tryd.ntmps17
  go_wp2
  go_loop [3] (fun i => ∃ k : Nat, k ≤ s.size ∧ i = .int .i64 k ∧ ∀ j, j < k → ds.getD j 0 = 0) (fun i => s.size - (intOf i).toNat)
  case atStart => exact ⟨0, Nat.zero_le _, rfl, fun j hj => absurd hj (by omega)⟩
  case round =>
    obtain ⟨k, hk, rfl, hall0⟩ := hrel
    have hall := Lib.hid hall0
    clear hall0
    by_cases hlt : k < s.size
    · have hb := H.out.at_ hlt
      have HB := Lib.hid hb
      clear hb
      go_wp2
      · have hd : (((s[k].toNat : Nat) : Int) == 48) = true := by assumption
        go_round
        case rel =>
          refine ⟨k + 1, by omega, by go_num, fun j hj => ?_⟩
          rcases Nat.lt_or_ge j k with hjk | hjk
          · exact hall.out j hjk
          · obtain rfl : j = k := by omega
            have h1 := HB.out
            have h2 : ((s[j].toNat : Nat) : Int) = 48 := by simpa using hd
            omega
        case measure => simp [intOf]; omega
      · have hd : (((s[k].toNat : Nat) : Int) == 48) = false := by assumption
        go_ret
        refine ⟨_, rfl, ?_, rfl⟩
        have e : decs (dval ds) = (ds.take s.size).drop k := by
          rw [← stripZ_eq ds H.out.2, List.take_of_length_le (by rw [hl.out]; exact Nat.le_refl _)]
          refine stripZ_drop ds k hall.out (fun _ => ?_)
          have h1 := HB.out
          have h2 : ¬ ((s[k].toNat : Nat) : Int) = 48 := by simpa using hd
          omega
        rw [e]
        exact H.out.cut k s.size
    · obtain rfl : k = s.size := by omega
      go_wp2
      go_ret
      refine ⟨_, rfl, ?_, rfl⟩
      have e : decs (dval ds) = (ds.take s.size).drop s.size := by
        rw [← stripZ_eq ds H.out.2, List.take_of_length_le (by rw [hl.out]; exact Nat.le_refl _)]
        exact stripZ_drop ds s.size hall.out (fun hh => by have := hl.out; omega)
      rw [e, List.drop_eq_nil_of_le (by simp; omega)]
      exact IsD.nil
theorem strip_c (s : ByteArray) (ds : List Nat) (w : World) (h : IsD s ds) (hs : s.size ≤ 1000000000) :
    Calls Tryd.prog 17 #[.string s] w fun e w' => ∃ s', e = .returned (.string s') ∧ IsD s' (decs (dval ds)) ∧ w = w' := strip_big s ds w h (by omega)
end Go.Proofs.YtpbkndmciopnjaaDoor
