import Derived.Test.YtpbkndmciopnjaaDoorTen7
namespace Go.Proofs.YtpbkndmciopnjaaDoor
open Go.RowKit Go.Shelf
attribute [local go_sem] Oper.semAt_some
theorem keptR_box {g B : Nat} {W : World} {t : TypeId} {v : Value} (h : Boxed W B t v) (ht : t ≠ 39) (hg : g ≤ B) (u : Value) : KeptR g W (W.setCell ⟨B, 0, none⟩ u) :=
  ⟨(Below.refl g W).setCell (p := ⟨B, 0, none⟩) hg u, fun k cs fz hk => (Below.heap_setCell _ _ _ k (fun e => by
    subst e
    rw [show W.heap[k]? = _ from h] at hk
    simp only [Option.some.injEq, Obj.cells.injEq] at hk
    exact ht hk.2.1)).trans hk⟩
set_option maxHeartbeats 2000000 in
set_option maxRecDepth 100000 in
theorem tenLen_c (A : Option Addr) (n c : Nat) (xs : List Nat) (w : World) (h : Limbs w A n xs) (gx : ∀ x ∈ xs, x < 1000000000) (hn : n ≤ 100000000) (hP : Pw w) :
    Calls Tryd.prog 14 #[.slice A n c] w fun e w' => e = .returned (.int .i64 ((decs (val 1000000000 xs)).length : Nat)) ∧ Below w.heap.size w w' := by
  have H := Lib.hid h
  have GX := Lib.hid gx
  have HPW := Lib.hid hP
  clear h gx hP
  refine callsIn_wide.1 (callsIn_of_wp_marks (n := 6) Tryd.func14 rfl trivial ?_ rfl)
  refine wpIn_wide.2 ?_
  simp only [Tryd.ntmps14, List.size_toArray, List.length_cons, List.length_nil, Nat.reduceAdd, Nat.reduceSub, Array.replicate_succ, Array.replicate_zero, List.push_toArray, List.append_toArray, List.nil_append, List.cons_append]
  go_wp2_with (go_at_call 23; refine (fromEnd_c _ _ _ _).mono ?_; rintro e w' ⟨rfl, rfl⟩)
  obtain ⟨b0, hb0⟩ : ∃ b0 : Nat, w.heap.size = b0 := ⟨_, rfl⟩
  obtain ⟨W1, hW1⟩ : ∃ W1 : World, w.alloc (.cells #[.int .i64 0] 3) = W1 := ⟨_, rfl⟩
  obtain ⟨W2, hW2⟩ : ∃ W2 : World, W1.alloc (.cells #[.slice A n c] 22) = W2 := ⟨_, rfl⟩
  have s1 : W1.heap.size = b0 + 1 := by rw [← hW1, World.size_alloc, hb0]
  have s2 : W2.heap.size = b0 + 2 := by rw [← hW2, World.size_alloc, s1]
  have bN : Boxed W2 b0 3 (.int .i64 0) := by
    rw [← hW2]
    refine Boxed.alloc ?_ _
    rw [← hW1, ← hb0]
    exact Boxed.new _ _ _
  have bS : Boxed W2 (b0 + 1) 22 (.slice A n c) := by rw [← hW2, ← s1]; exact Boxed.new _ _ _
  have hB2 : Below b0 w W2 := by
    rw [← hW2, ← hW1, ← hb0]
    exact ((Below.refl _ w).alloc (Nat.le_refl _) _).alloc (by simp) _
  have hL2 : Limbs W2 A n xs := H.out.below (by rw [hb0]; exact hB2)
  have hG : 0 < b0 := by rw [← hb0]; exact HPW.out.blk
  have hys : ∀ x ∈ trim xs, x < 1000000000 := fun x hx => GX.out x (List.mem_of_mem_take hx)
  have hyl := trim_length xs
  have hyv := val_trim 1000000000 xs
  have htz : tz xs ≤ 100000000 := by have := tz_le xs; rw [H.out.len] at this; omega
  have hst := end_stops 5 (b0 + 1) b0 A n c xs (by omega) W2 bS hL2
  generalize trim xs = ys at *
  generalize tz xs = T at *
  rw [hW1, hW2, hb0]
  refine (wpIn_wide (n := 6)).1 ?_
  refine wpIn_rangeFunc_ownG (n := 6) rfl (by omega) (gf := 29) (lb := #[.pointer (some ⟨b0 + 1, 0, none⟩)]) rfl trivial (enters_of Tryd.func29 (by kernel_rfl) rfl)
    hst KeptR.trans (keptR_b (by omega)) (Below.refl _ _) (fun _ => rfl)
    (fun pre W => Boxed W b0 3 (.int .i64 ((lrun ys (pre.map (·.1)) : Nat) : Int)) ∧ Below b0 w W)
    (fun _ _ _ => False)
    (OwnFrom.and (Own.from (boxed_own _ _ _) _) (ownFrom_below (by omega) (by omega)))
    (fun _ _ _ _ _ hs _ _ => hs)
    ⟨bN, hB2⟩
    (fun x => { tmps := #[.slice A n c, undef, .int .i64 0, .pointer (some ⟨b0, 0, none⟩), .int .u32 ((ys.getD x.1 0 : Nat) : Int), .slice A n c, .func (.func 29) #[] #[.pointer (some ⟨b0 + 1, 0, none⟩)], .int .u32 ((ys.getD x.1 0 : Nat) : Int), undef, undef, undef, undef, undef, undef, undef], defers := [] }) ?assign ?body ?done ?stop
  case assign =>
    intro l x W K hK
    gi_wp2
    simpa using hK
  case body =>
    rintro l pre ⟨i, hin⟩ W ⟨b1, hb⟩ hpl
    dsimp only
    have hx := getD_lt 1000000000 (by omega) ys hys i
    have hsn := lrun_snoc ys (pre.map (·.1)) i
    rw [show [i] = [(⟨i, hin⟩ : Pl T)].map (·.1) from rfl, ← List.map_append] at hsn
    have hle := lrun_le ys hys (pre.map (·.1))
    rw [List.length_map] at hle
    have hPr := HPW.out.below' hb hG
    have hc1 := b1.cell
    have hf1 := b1.frozen
    have CW := width_c (ys.getD i 0) W hx hPr
    have HCW := Lib.hid CW
    have B1 := Lib.hid b1
    have HB := Lib.hid hb
    have HSN := Lib.hid hsn
    clear CW b1 hb hsn hPr
    by_cases hz : lrun ys (pre.map (·.1)) = 0
    · rw [hz] at hc1
      have hz2 : lstep ys (lrun ys (pre.map (·.1))) i = (decs (ys.getD i 0)).length := by rw [lstep, if_pos hz]
      have hc1' : W.cell? ⟨b0, 0, none⟩ = some (.int .i64 0) := hc1
      have HZ2 := Lib.hid (HSN.out.trans hz2)
      clear hz2 hc1 hle
      generalize ys.getD i 0 = X at *
      gi_wp2_with (refine ⟨trivial, ?_⟩; gi_at_call 25; refine (CallsIn.inRound l (callsIn_wide.2 HCW.out)).mono ?_; rintro e w' ⟨rfl, rfl⟩)
      refine ⟨(KeepsOthers.setCell _ _ _).from _, keptR_box B1.out (by decide) (Nat.le_refl _) _, ?_, HB.out.setCell (p := ⟨b0, 0, none⟩) (Nat.le_refl _) _⟩
      rw [HZ2.out]
      exact B1.out.set _
    · have hz2 : lstep ys (lrun ys (pre.map (·.1))) i = lrun ys (pre.map (·.1)) + 9 := by rw [lstep, if_neg hz]
      have HZ2 := Lib.hid (HSN.out.trans hz2)
      clear hz2
      generalize lrun ys (pre.map (·.1)) = L at *
      generalize ys.getD i 0 = X at *
      have hz0 : ((L : Int) == 0) = false := by simp; omega
      clear hz
      gi_wp2
      refine ⟨(KeepsOthers.setCell _ _ _).from _, keptR_box B1.out (by decide) (Nat.le_refl _) _, ?_, HB.out.setCell (p := ⟨b0, 0, none⟩) (Nat.le_refl _) _⟩
      rw [HZ2.out, show ((L + 9 : Nat) : Int) = (L : Int) + 9 by omega]
      exact B1.out.set _
  case done =>
    rintro D zs W hD hzs ⟨b1, hb⟩ hK
    rw [hzs, lrun_all ys T hyl hys, hyv] at b1
    have hc1 := b1.cell
    have HK := Lib.hid hK
    have HB := Lib.hid hb
    clear hK hzs b1 hb
    go_wp2
    refine ⟨by simp, .inl ⟨_, _, rfl, run_takeDeferred HK.out, ?_⟩⟩
    exact ⟨_, results_tmp rfl _ _ _, rfl, by rw [hb0]; exact HB.out.trans (belowK_b (w := W2) (by omega) _ D _ _ hD HK.out rfl rfl)⟩
  case stop =>
    rintro D c pre W _ _ h _
    exact h.elim
end Go.Proofs.YtpbkndmciopnjaaDoor
