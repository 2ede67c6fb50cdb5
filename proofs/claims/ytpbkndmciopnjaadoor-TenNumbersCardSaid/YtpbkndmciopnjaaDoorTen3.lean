import Derived.Test.YtpbkndmciopnjaaDoorTen2
import Derived.Test.YtpbkndmciopnjaaDoorRefE
namespace Go.Proofs.YtpbkndmciopnjaaDoor
open Go.RowKit
/-- Digits, or 0 if there are none. -/
def orZero (ds : List Nat) : List Nat := if ds = [] then [0] else ds
theorem orZero_nil : orZero [] = [0] := rfl
theorem orZero_cons {d : Nat} {r : List Nat} : orZero (d :: r) = d :: r := rfl
theorem isD_zero : IsD ⟨#[48]⟩ [0] := ⟨rfl, by simp⟩
set_option maxHeartbeats 400000 in
theorem zero04_c (s : ByteArray) (ds : List Nat) (w : World) (h : IsD s ds) :
    Calls Tryd.prog 13 #[.string s] w fun e w' => ∃ s', e = .returned (.string s') ∧ IsD s' (orZero ds) ∧ w = w' := by
  rcases ds with _ | ⟨d, r⟩
  · obtain rfl := IsD.ext h IsD.nil
    clear h
    go_enter Tryd.func13, Tryd.ntmps13
    go_wp2
    go_ret
    exact ⟨_, rfl, isD_zero, rfl⟩
  · have hne : s.toList ≠ [] := fun e => by
      have h1 := h.list
      rw [e] at h1
      simp at h1
    have hb2 : s.toList.isEmpty = false := by
      cases hh : s.toList with
      | nil => exact absurd hh hne
      | cons => rfl
    have hb1 : (!s.toList.isEmpty) = true := by rw [hb2]; rfl
    have H := Lib.hid h
    clear h hne
    go_enter Tryd.func13, Tryd.ntmps13
    go_wp2
    go_ret
    exact ⟨s, rfl, H.out, rfl⟩
theorem asc_zeros (k : Nat) : (List.replicate k 48) = (List.replicate k 0).map (fun d => 48 + d) := by simp
set_option maxHeartbeats 800000 in
theorem zeros_c (k : Nat) (w : World) (hk : k ≤ 100000000) :
    Calls Tryd.prog 18 #[.int .i64 (k : Int)] w fun e w' => ∃ s', e = .returned (.string s') ∧ IsD s' (List.replicate k 0) ∧ Below w.heap.size w w' := by
  generalize hg : w.heap.size = g at *
  have Hg := Lib.hid hg
  clear hg
  go_enter Tryd.func18, Tryd.ntmps18
  go_wp2
  go_loopw [3, 4] (fun v i wr => ∃ j : Nat, j ≤ k ∧ i = .int .i64 (j : Int) ∧ wr.ownsRow g 5 1 v j (u8s (List.replicate j 48)) ∧ Below g w wr) (fun _ i _ => k - (intOf i).toNat)
  case atStart => exact ⟨0, Nat.zero_le _, rfl, World.ownsRow_nil _ _ _ _, Below.refl _ _⟩
  case round =>
    obtain ⟨j, hj, rfl, hown0, hb0⟩ := hrel
    have HO := Lib.hid hown0
    have HB := Lib.hid hb0
    have hsz : g ≤ wr.heap.size := by have := hb0.size; have e := Hg.out; omega
    clear hown0 hb0
    by_cases hlt : j < k
    · go_wp2_with (at_builtin; go_must (refine wpList_app_u8 rfl (.tmp 10) (.tmp 11) _ rfl Tryd.underlying41 g u3 j _ rfl HO.out _ rfl 48 (by omega) (by omega) HB.out hsz ?_))
      intro v' w' ho1 hb1
      go_wp2
      go_roundw
      case rel =>
        refine ⟨j + 1, by omega, by go_num, ?_, hb1.out⟩
        rw [List.replicate_succ']
        exact ho1.out
      case measure => simp [intOf]; omega
    · obtain rfl : j = k := by omega
      obtain ⟨s', hc, hs'⟩ := conv_own HO.out (fun x hx => by rw [List.eq_of_mem_replicate hx]; omega)
      have HS := Lib.hid hs'
      clear hs'
      go_wp2
      go_ret
      refine ⟨s', rfl, ⟨?_, fun d hd => ?_⟩, HB.out⟩
      · rw [HS.out, asc_zeros]
      · rw [List.eq_of_mem_replicate hd]; omega
end Go.Proofs.YtpbkndmciopnjaaDoor
