/-
  PJ: an affix's items, of elements.
-/
import Derived.Test.YtbjelkejifgnfaaGreatDoorPG
import Derived.Test.YtbjelkejifgnfaaGreatDoorVC
set_option maxRecDepth 100000
namespace Go.Proofs.YtbjelkejifgnfaaGreatDoor
open Go.RowKit
theorem isS_yes (W : World) (v : Value) : (Instr.typeAssert (.iface 110 v) 83 110 true).run Tryz.prog W = .ok (.tuple #[v, .bool true]) W := by kernel_rfl
theorem isS_no (W : World) (v : Value) : (Instr.typeAssert (.iface 112 v) 83 110 true).run Tryz.prog W = .ok (.tuple #[.agg #[.int .i32 0, .bool false, .int .i64 0], .bool false]) W := by kernel_rfl
theorem tksE_take {es : List El} {k : Nat} (h : k < es.length) : tksE (es.take (k + 1)) = tksE (es.take k) ++ (if es[k].2 then [] else [es[k].1]) := by
  unfold tksE
  rw [List.take_succ_eq_append_getElem h, List.filter_append, List.map_append]
  congr 1
  cases hp : es[k].2 <;> simp [hp]
theorem tksE_len (es : List El) : (tksE es).length ≤ es.length := by
  unfold tksE
  rw [List.length_map]; exact List.length_filter_le _ _
set_option maxHeartbeats 2000000 in
theorem items16_c {D : Nat} (A : Option Addr) (n c : Nat) (es : List El) (w : World) (h : Pls w D A n es) (hn : n ≤ 1000) :
    Calls Tryz.prog 42 #[.slice A n c] w fun e w' =>
      ∃ A' m c', e = .returned (.tuple #[.slice A' m c', .agg #[.int .i64 (itms (tksE es)).2.1, .int .i64 (itms (tksE es)).2.2]]) ∧ Hid (OwnI w' w.heap.size A' m c' (itms (tksE es)).1) ∧ Hid (Below w.heap.size w w') := by
  have HLn := Lib.hid h.len
  have HW := Lib.hid (h.below (below_new w (.cells #[.int .i64 0, .int .i64 0] 28)))
  have HB0 := Lib.hid (below_new w (.cells #[.int .i64 0, .int .i64 0] 28))
  have HF0 := Lib.hid (FB.new w (.int .i64 0) (.int .i64 0))
  clear h
  go_enter Tryz.func42, Tryz.ntmps42
  go_upto_region 1 with fail
  have hgW : w.heap.size < (w.alloc (.cells #[.int .i64 0, .int .i64 0] 28)).heap.size := by simp
  generalize w.alloc (.cells #[.int .i64 0, .int .i64 0] 28) = W0 at *
  generalize hg : w.heap.size = g at *
  have HGe := Lib.hid hg
  clear hg
  go_wp2
  go_loopw [4, 11] (fun s iv wr => ∃ (k : Nat) (A1 : Option Addr) (m c1 : Nat), k ≤ n ∧ iv = .int .i64 (k : Int) ∧ s = .slice A1 m c1 ∧ OwnT wr W0.heap.size A1 m c1 (tksE (es.take k)) ∧ Below W0.heap.size W0 wr) (fun _ iv _ => n - (intOf iv).toNat)
  case atStart => exact ⟨0, none, 0, 0, Nat.zero_le _, rfl, rfl, ownT_nil _ _, Below.refl _ _⟩
  case round =>
    obtain ⟨k, A1, m, c1, hk, rfl, rfl, ho0, hb0⟩ := hrel
    have HO := Lib.hid ho0
    have HB := Lib.hid hb0
    have HT := Lib.hid (HW.out.below hb0)
    have hm : m ≤ 1000 := by
      have h1 := ho0.len
      have h2 := tksE_len (es.take k)
      rw [List.length_take] at h2
      omega
    clear ho0 hb0
    by_cases hlt : k < n
    · have hks : k < es.length := by rw [HLn.out]; exact hlt
      obtain ⟨ad, rfl, hbk, c0, hz⟩ := HT.out.at_ hlt
      rw [el4_eq hks] at c0 hz
      have HTK := Lib.hid (tksE_take hks)
      generalize es[k] = ek at *
      obtain ⟨⟨r, q, a⟩, p⟩ := ek
      have HZ := Lib.hid hz
      clear hz
      cases p
      · rw [pE_s] at c0
        have h1 := isS_yes
        have HO1 := Lib.hid (HO.out.keep (below_new wr (.cells #[.int .i32 r, .bool q, .int .i64 a] 110)) rfl)
        go_wp2_with (at_builtin; go_must (refine wpList_app_tok rfl (.tmp 21) (.tmp 24) _ rfl Tryz.underlying57 W0.heap.size (.slice A1 m c1) m (tksE (es.take k)) rfl HO1.out.1 (r, q, a) (by rw [World.size_alloc]; rfl) r q a rfl (by omega) (HB.out.alloc HB.out.size _) (Nat.le_trans HB.out.size (by simp)) ?_))
        intro v' w' p1 p2 p3
        obtain ⟨A4, c4, rfl⟩ := own_form p1.out
        clear h1
        go_wp2
        go_roundw
        case rel =>
          refine ⟨k + 1, _, _, _, by omega, by go_num, rfl, ⟨by rw [HTK.out]; exact p1.out, by omega, ?_⟩, p2.out⟩
          rw [HTK.out]
          intro t ht
          rcases List.mem_append.1 ht with ht | ht
          · exact HO.out.2.2 t ht
          · obtain rfl : t = (r, q, a) := by simpa using ht
            have := isZ_iff.1 HZ.out
            exact ⟨by dsimp only at this ⊢; omega, by dsimp only at this ⊢; omega⟩
        case measure => simp [intOf]; omega
      · rw [pE_p] at c0
        have h1 := isS_no
        go_wp2
        go_roundw
        case rel =>
          refine ⟨k + 1, _, _, _, by omega, by go_num, rfl, ?_, HB.out.alloc HB.out.size _⟩
          rw [HTK.out]
          simp only [if_true, List.append_nil]
          exact HO.out.keep (below_new wr _) rfl
        case measure => simp [intOf]; omega
    · obtain rfl : k = n := by omega
      have hte : es.take k = es := List.take_of_length_le (by rw [HLn.out]; exact Nat.le_refl _)
      rw [hte] at HO
      have HF := Lib.hid (HF0.out.below HB.out hgW)
      have HC := Lib.hid (affItems_c A1 m c1 _ wr HO.out.tks)
      clear hte
      go_wp2_with (first
        | (go_at_call 60; refine HC.out.mono ?_; rintro e w1 ⟨A5, m5, c5, rfl, ho5, hb5⟩; have HF1 := Lib.hid (HF.out.below hb5.out HF.out.lt); have a0 := HF1.out.c0; have a1 := HF1.out.c1; have q0 := HF1.out.fr 0; have q1 := HF1.out.fr 1)
        | fail)
      have hgr : g < wr.heap.size := HF.out.lt
      refine bodyPost_ret (v := .tuple #[.slice A5 m5 c5, .agg #[.int .i64 (itms (tksE es)).2.1, .int .i64 (itms (tksE es)).2.2]]) (by simp [results, Tryz.results42, go_sem, a0, a1]) rfl ⟨A5, m5, c5, rfl, ?_, ?_⟩
      · exact Lib.hid ⟨own_weaken (own_setCell (own_setCell ho5.out.1 (p := ⟨g, 0, none⟩) hgr _) (p := ⟨g, 1, none⟩) hgr _) (HGe.out ▸ Nat.le_of_lt hgr), ho5.out.2⟩
      · rw [HGe.out]
        exact Lib.hid (Below.set2 ((HB0.out.trans (HB.out.mono (Nat.le_of_lt hgW))).trans (hb5.out.mono (Nat.le_of_lt hgr))) (Nat.le_refl _) _ _)
end Go.Proofs.YtbjelkejifgnfaaGreatDoor
