/-
  VC: affix's Items, Tokens, Print.
-/
import Derived.Test.YtljgpdghpkpffaaMB
set_option maxRecDepth 100000
namespace Go.Proofs.Ytljgpdghpkpffaa
open Go.RowKit
set_option maxHeartbeats 2000000 in
theorem affTokens_c (A : Option Addr) (n c : Nat) (is : List Itm) (w : World) (h : Its w A n is) (hn : n ≤ 10000000000) : Calls Try.prog 21 #[.slice A n c] w fun e w' =>
    ∃ A' m c', e = .returned (.slice A' m c') ∧ Hid (OwnT w' w.heap.size A' m c' (tksI is)) ∧ Hid (Below w.heap.size w w') := by
  have HL := Lib.hid h.len
  have H := Lib.hid h
  clear h
  generalize hg : w.heap.size = g at *
  have Hg := Lib.hid hg
  clear hg
  have B0 := Lib.hid (show Below g w w by rw [← Hg.out]; exact Below.refl _ _)
  go_enter Try.func21, Try.ntmps21
  go_wp2
  go_loopw [3, 10] (fun v iv wr => ∃ (k : Nat), k ≤ n ∧ iv = .int .i64 (k : Int) ∧ (is.take k).all mayI = true ∧ wr.ownsRow g 67 3 v k (toksV ((is.take k).map tkI)) ∧ Below g w wr) (fun _ iv _ => n - (intOf iv).toNat)
  case atStart => exact ⟨0, Nat.zero_le _, rfl, rfl, World.ownsRow_nil _ _ _ _, B0.out⟩
  case round =>
    obtain ⟨k, hk, rfl, hall0, ho0, hb0⟩ := hrel
    have HALL := Lib.hid hall0
    have HO := Lib.hid ho0
    have HB := Lib.hid hb0
    have hqs : g ≤ wr.heap.size := by have := hb0.size; have := Hg.out; omega
    have HT := Lib.hid (H.out.below (w' := wr) (by rw [Hg.out]; exact hb0))
    clear hall0 ho0 hb0
    by_cases hlt : k < n
    · obtain ⟨ad, rfl, hab, c0, c1, hri⟩ := HT.out.at_ hlt
      have HS := Lib.hid (im_take_succ is (k := k) (by rw [HL.out]; exact hlt))
      have HMEM := Lib.hid (im_mem (is := is) (k := k) (by rw [HL.out]; exact hlt))
      clear hri
      generalize im is k = i at *
      obtain ⟨a, r⟩ := i
      dsimp only at c0 c1
      have BA := Lib.hid (HB.out.alloc hqs (.cells #[.int .i64 a, .int .i32 r] 34))
      have OA := Lib.hid (HO.out.alloc (.cells #[.int .i64 a, .int .i32 r] 34))
      have HC := Lib.hid (affTell_c a r)
      rcases hm : mayI (a, r) with _ | _
      · rw [tlI_no hm, hm] at HC
        have HV := Lib.hid (tksI_no (is := is) (by
          rw [Bool.eq_false_iff]
          intro ha
          rw [List.all_eq_true.1 ha _ HMEM.out] at hm; cases hm))
        clear hm
        go_wp2_with fail
        refine (HC.out _).mono ?_
        rintro e w1 ⟨rfl, hb1⟩
        have HB1 := Lib.hid (BA.out.trans (hb1.mono (by simp; omega)))
        have hqs1 : g ≤ w1.heap.size := by have := hb1.size; simp at this; omega
        clear hb1
        go_wp2
        go_ret
        rw [HV.out]
        exact ⟨_, _, _, rfl, Lib.hid (ownT_nil _ _), Lib.hid (HB1.out.alloc hqs1 _)⟩
      · rw [tlI_may hm, hm] at HC
        have HM := Lib.hid hm
        have HTE := Lib.hid (show tkI (a, r) = tkI (a, r) from rfl)
        generalize hti : tkI (a, r) = T at HC HTE
        have HTI := Lib.hid hti
        obtain ⟨x, y, z⟩ := T
        dsimp only at HC
        clear hm hti HTE
        go_wp2_with fail
        refine (HC.out _).mono ?_
        rintro e w1 ⟨rfl, hb1⟩
        have HO1 := Lib.hid (own_keptN OA.out hb1 rfl)
        have HB1 := Lib.hid (BA.out.trans (hb1.mono (by simp; omega)))
        have hqs1 : g ≤ w1.heap.size := by have := hb1.size; simp at this; omega
        have HO2 := Lib.hid (HO1.out.alloc (.cells #[.int .i32 x, .bool y, .int .i64 z] 67))
        have HB2 := Lib.hid (HB1.out.alloc hqs1 (.cells #[.int .i32 x, .bool y, .int .i64 z] 67))
        have hqs2 : g ≤ (w1.alloc (.cells #[.int .i32 x, .bool y, .int .i64 z] 67)).heap.size := by simp; omega
        clear hb1
        go_wp2_with (at_builtin; go_must (refine wpList_app_tok rfl (.tmp 21) (.tmp 23) _ rfl Try.underlying45 g u3 k ((is.take k).map tkI) rfl HO2.out (x, y, z) (by rw [World.size_alloc]; rfl) x y z rfl (by omega) HB2.out hqs2 ?_))
        intro v' w' ho4 hb4 _
        go_wp2
        go_roundw
        case rel =>
          refine ⟨k + 1, by omega, by go_num, ?_, ?_, hb4.out⟩
          · rw [HS.out, List.all_append, HALL.out]; simp [HM.out]
          · have e : (is.take (k + 1)).map tkI = (is.map tkI).take k ++ [(x, y, z)] := by rw [HS.out, List.map_append, List.map_take, List.map_cons, List.map_nil, HTI.out]
            rw [e]; exact ho4.out
        case measure => simp [intOf]; omega
    · have hkm : k = n := by omega
      subst hkm
      rw [List.take_of_length_le (by rw [HL.out]; exact Nat.le_refl _)] at HO HALL
      obtain ⟨A7, c7, hA⟩ := own_form HO.out
      subst hA
      go_wp2
      go_ret
      rw [tksI_may HALL.out]
      refine ⟨_, _, _, rfl, Lib.hid ⟨HO.out, hn, fun t ht => ?_⟩, HB⟩
      obtain ⟨i, hi, rfl⟩ := List.mem_map.1 ht
      exact r32_tkI (H.out.2.2 i hi)
end Go.Proofs.Ytljgpdghpkpffaa
