import Derived.Test.YtpbkndmciopnjaaDoorTen1
namespace Go.Proofs.YtpbkndmciopnjaaDoor
open Go.RowKit
set_option maxHeartbeats 800000 in
theorem trimByte_c (s : ByteArray) (ds : List Nat) (w : World) (h : IsD s ds) (hs : s.size ≤ 1000000000000) :
    Calls Tryd.prog 30 #[.string s, .int .u8 48] w fun e w' => ∃ s', e = .returned (.string s') ∧ IsD s' (stripZ ds) ∧ w = w' := by
  have H := Lib.hid h
  clear h
  go_enter Tryd.func30, Tryd.ntmps30
  go_wp2
  go_loop [0] (fun v => ∃ (t : ByteArray) (es : List Nat), v = .string t ∧ IsD t es ∧ stripZ es = stripZ ds ∧ t.size ≤ 1000000000000) (fun v => strLen v)
  case atStart => exact ⟨s, ds, rfl, H.out, rfl, hs⟩
  case round =>
    obtain ⟨t, es, rfl, ht0, hz0, htl⟩ := hrel
    have HZ := Lib.hid hz0
    rcases es with _ | ⟨d, r⟩
    · have hsz : t.size = 0 := ht0.size
      have HT := Lib.hid ht0
      clear ht0 hz0
      go_wp2
      go_ret
      exact ⟨t, rfl, by rw [← HZ.out]; exact HT.out, rfl⟩
    · have hsz : t.size = r.length + 1 := ht0.size
      have hpos : 0 < t.size := by omega
      have hpos1 : 1 ≤ t.size := by omega
      have hb := ht0.at_ hpos
      simp only [List.getD_cons_zero] at hb
      have HT := Lib.hid ht0
      have HSZ := Lib.hid hsz
      have HB := Lib.hid hb
      clear ht0 hz0 hsz hb
      by_cases hd : d = 0
      · have hd1 : (((t[0].toNat : Nat) : Int) == 48) = true := by have := HB.out; simp; omega
        go_wp2
        go_round
        case rel =>
          refine ⟨_, r, rfl, ?_, ?_, ?_⟩
          · have h1 := HT.out.cut 1 t.size
            rw [List.take_of_length_le (by rw [HT.out.size]; exact Nat.le_refl _)] at h1
            exact h1
          · rw [← HZ.out, hd]; simp [stripZ]
          · simp; omega
        case measure => simp [strLen]; omega
      · have hd1 : (((t[0].toNat : Nat) : Int) == 48) = false := by have := HB.out; simp; omega
        go_wp2
        go_ret
        refine ⟨t, rfl, ?_, rfl⟩
        rw [← HZ.out, show stripZ (d :: r) = d :: r by simp [stripZ, hd]]
        exact HT.out
set_option maxHeartbeats 800000 in
set_option maxRecDepth 100000 in
theorem trimLeft_c (s : ByteArray) (ds : List Nat) (w : World) (h : IsD s ds) (hs : s.size ≤ 1000000000000) :
    Calls Tryd.prog 24 #[.string s, .string ⟨#[48]⟩] w fun e w' => ∃ s', e = .returned (.string s') ∧ IsD s' (stripZ ds) ∧ w = w' := by
  rcases ds with _ | ⟨d, r⟩
  · obtain rfl := IsD.ext h IsD.nil
    clear h
    go_enter Tryd.func24, Tryd.ntmps24
    go_wp2
    go_ret
    exact ⟨_, rfl, IsD.nil, rfl⟩
  · have hne : s.toList ≠ [] := fun e => by
      have h1 := h.list
      rw [e] at h1
      simp at h1
    have hb1 : (!s.toList.isEmpty) = true := by
      cases hh : s.toList with
      | nil => exact absurd hh hne
      | cons => rfl
    have CT := trimByte_c s (d :: r) w h hs
    have HCT := Lib.hid CT
    have hb2 : s.toList.isEmpty = false := by
      cases hh : s.toList with
      | nil => exact absurd hh hne
      | cons => rfl
    clear CT h hs hne
    go_enter Tryd.func24, Tryd.ntmps24
    go_wp2_with (go_at_call 30; refine HCT.out.mono ?_; rintro e w' ⟨s', rfl, hs', rfl⟩; have HS := Lib.hid hs'; clear hs')
    go_ret
    exact ⟨s', rfl, HS.out, rfl⟩
end Go.Proofs.YtpbkndmciopnjaaDoor
