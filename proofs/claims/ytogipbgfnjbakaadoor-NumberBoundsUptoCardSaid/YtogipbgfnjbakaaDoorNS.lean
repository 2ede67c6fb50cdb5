/-
  NS: the program's grouped.
-/
import Derived.Test.YtogipbgfnjbakaaDoorNR
set_option maxRecDepth 100000
namespace Go.Proofs.YtogipbgfnjbakaaDoor
open Go.RowKit
theorem ext_sizes (T : ByteArray) {i j : Nat} (hij : i ≤ j) (hj : j ≤ T.size) : (T.extract i j).size = j - i := by rw [ByteArray.size_extract]; omega
set_option maxHeartbeats 4000000 in
theorem grouped_c (x0 x1 x2 x3 x4 y0 y1 y2 : Value) (p : NF) (T : ByteArray) (w : World) (hg0 : (p.prim = 0) ∨ (1 ≤ p.prim ∧ 1 ≤ p.sec ∧ p.sci = false)) (hl : 0 < p.prim → p.prim + 1 + (if p.sec ≠ p.prim then p.sec else 0) ≤ T.size) (hT : T.size ≤ 1000000) :
    Calls Tryd.prog 46 #[.agg (patV x0 x1 x2 x3 x4 p y0 y1 y2), .string T] w fun e w' => e = .returned (.string (stz (cmW p.prim p.sec (bts T)))) ∧ Below w.heap.size w w' := by
  have HB := Lib.hid (below_new w (.cells (patV x0 x1 x2 x3 x4 p y0 y1 y2) 24))
  have hbx : BX (w.alloc (.cells (patV x0 x1 x2 x3 x4 p y0 y1 y2) 24)) w.heap.size (patV x0 x1 x2 x3 x4 p y0 y1 y2) 24 := BX.new _ _ _
  obtain ⟨R, hR⟩ : ∃ R, stz (cmW p.prim p.sec (bts T)) = R := ⟨_, rfl⟩
  rw [hR]
  have HR := Lib.hid hR
  clear hR
  go_enter Tryd.func46, Tryd.ntmps46
  go_upto_region 1 with fail
  generalize w.alloc (.cells (patV x0 x1 x2 x3 x4 p y0 y1 y2) 24) = W at *
  generalize hg : w.heap.size = g at *
  have Hg := Lib.hid hg
  clear hg
  have c11 : W.cell? ⟨g, 11, none⟩ = some (.int .i64 (p.prim : Int)) := hbx.c 11
  have c12 : W.cell? ⟨g, 12, none⟩ = some (.int .i64 (p.sec : Int)) := hbx.c 12
  have c14 : W.cell? ⟨g, 14, none⟩ = some (.bool p.sci) := hbx.c 14
  clear hbx
  rcases hg0 with h0 | ⟨h1, h2, h3⟩
  · have hRT : R = T := by rw [← HR.out, h0, cmW_zero, stz_bts]
    have g0 : ((p.prim : Int) == 0) = true := by simp only [beq_iff_eq]; omega
    subst hRT
    clear h0 hl
    cases hs : p.sci
    all_goals
      rw [hs] at c14
      clear hs
      go_wp2
      go_ret
      exact ⟨rfl, Hg.out ▸ HB.out⟩
  · have hl' := hl (by omega)
    rw [h3] at c14
    have g0 : ((p.prim : Int) == 0) = false := by simp only [beq_eq_false_iff_ne, ne_eq]; omega
    obtain ⟨k, hk⟩ : ∃ k, T.size - p.prim = k := ⟨_, rfl⟩
    have hkI : (T.size : Int) - (p.prim : Int) = (k : Int) := by split at hl' <;> omega
    have hkT : k ≤ T.size := by omega
    have s1 := ext_sizes T (Nat.zero_le k) hkT
    have s2 := ext_sizes T hkT (Nat.le_refl _)
    by_cases hS : p.sec = p.prim
    · have g2 : ((p.sec : Int) == (p.prim : Int)) = true := by simp only [beq_iff_eq]; omega
      rw [if_neg (fun e => e hS)] at hl'
      have HV := Lib.hid (show T.extract 0 k ++ ⟨#[44]⟩ ++ T.extract k T.size = R by
        rw [← HR.out, hS, cmW_same h1 (by rw [bts_length]; omega), bts_length, hk]
        refine eq_stz ?_
        rw [bts_append, bts_append, bts_upto, bts_from, List.append_assoc]; rfl)
      have q1 : ¬ 9223372036854775807 < (T.extract 0 k).size + 1 := by omega
      have q2 : ¬ 9223372036854775807 < (T.extract 0 k).size + 1 + (T.extract k T.size).size := by omega
      have q3 : ¬ 9223372036854775807 < (T.extract 0 k ++ ⟨#[44]⟩).size + (T.extract k T.size).size := by rw [ByteArray.size_append]; show ¬ _ < _ + 1 + _; omega
      clear hS hl hl' h1 h2 hk
      go_wp2
      go_quiet (fail)
      go_wp2
      go_ret
      rw [HV.out]
      exact ⟨rfl, (Hg.out ▸ HB.out).of_drewN _⟩
    · have g2 : ((p.sec : Int) == (p.prim : Int)) = false := by simp only [beq_eq_false_iff_ne, ne_eq]; omega
      rw [if_pos hS] at hl'
      obtain ⟨j, hj⟩ : ∃ j, k - p.sec = j := ⟨_, rfl⟩
      have hjI : (k : Int) - (p.sec : Int) = (j : Int) := by omega
      have hjk : j ≤ k := by omega
      have s3 := ext_sizes T (Nat.zero_le j) (by omega)
      have s4 := ext_sizes T hjk hkT
      have HV := Lib.hid (show T.extract 0 j ++ ⟨#[44]⟩ ++ T.extract j k ++ ⟨#[44]⟩ ++ T.extract k T.size = R by
        rw [← HR.out, cmW_two h1 h2 hS (by rw [bts_length]; omega), bts_length, hk, hj]
        refine eq_stz ?_
        rw [bts_append, bts_append, bts_append, bts_append, bts_upto, bts_from, bts_extract, List.append_assoc, List.append_assoc, List.append_assoc]; rfl)
      have q1 : ¬ 9223372036854775807 < (T.extract 0 j).size + 1 := by omega
      have q2 : ¬ 9223372036854775807 < (T.extract 0 j).size + 1 + (T.extract j k).size := by omega
      have q3 : ¬ 9223372036854775807 < (T.extract 0 j).size + 1 + (T.extract j k).size + 1 := by omega
      have q4 : ¬ 9223372036854775807 < (T.extract 0 j).size + 1 + (T.extract j k).size + 1 + (T.extract k T.size).size := by omega
      have z1 : (⟨#[44]⟩ : ByteArray).size = 1 := rfl
      have q2' : ¬ 9223372036854775807 < (T.extract 0 j ++ ⟨#[44]⟩).size + (T.extract j k).size := by rw [ByteArray.size_append, z1]; omega
      have q3' : ¬ 9223372036854775807 < (T.extract 0 j ++ ⟨#[44]⟩ ++ T.extract j k).size + 1 := by rw [ByteArray.size_append, ByteArray.size_append, z1]; omega
      have q4' : ¬ 9223372036854775807 < (T.extract 0 j ++ ⟨#[44]⟩ ++ T.extract j k ++ ⟨#[44]⟩).size + (T.extract k T.size).size := by rw [ByteArray.size_append, ByteArray.size_append, ByteArray.size_append, z1]; omega
      clear hS hl hl' h1 h2 hk hj z1
      go_wp2
      go_quiet (fail)
      go_wp2
      go_ret
      rw [HV.out]
      exact ⟨rfl, (Hg.out ▸ HB.out).of_drewN _⟩
end Go.Proofs.YtogipbgfnjbakaaDoor
