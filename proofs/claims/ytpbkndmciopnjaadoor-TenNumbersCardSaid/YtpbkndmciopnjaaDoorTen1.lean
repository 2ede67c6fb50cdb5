import Derived.StillTailTactics
import Derived.Lib.OthersKept
import Derived.Test.YtpbkndmciopnjaaDoorTenMath
import Derived.Test.YtpbkndmciopnjaaDoorDiv5
namespace Go.Proofs.YtpbkndmciopnjaaDoor
open Go.RowKit
/-- The table of powers reads as its text lays it. -/
def Pw (w : World) : Prop := ∀ i, i < 9 → w.cell? ⟨0, i, none⟩ = some (.int .u32 ((10 ^ i : Nat) : Int))
theorem Pw.blk {w : World} (h : Pw w) : 0 < w.heap.size := World.block_lt_of_cell? w ⟨0, 0, none⟩ (h 0 (by omega))
theorem Pw.below' {w w' : World} {B : Nat} (h : Pw w) (hb : Below B w w') (hB : 0 < B) : Pw w' := fun i hi => (hb.cell (p := ⟨0, i, none⟩) hB).trans (h i hi)
theorem Pw.below {w w' : World} (h : Pw w) (hb : Below w.heap.size w w') : Pw w' := h.below' hb h.blk
theorem Pw.drew {w : World} (h : Pw w) : Pw w.drew := h
set_option maxHeartbeats 2000000 in
set_option maxRecDepth 100000 in
theorem width_c (x : Nat) (w : World) (hx : x < 1000000000) (hP : Pw w) :
    Calls Tryd.prog 25 #[.int .u32 (x : Int)] w fun e w' => e = .returned (.int .i64 ((decs x).length : Nat)) ∧ w = w' := by
  have q0 : w.cell? ⟨0, 0, none⟩ = some (.int .u32 1) := hP 0 (by omega)
  have q1 : w.cell? ⟨0, 1, none⟩ = some (.int .u32 10) := hP 1 (by omega)
  have q2 : w.cell? ⟨0, 2, none⟩ = some (.int .u32 100) := hP 2 (by omega)
  have q3 : w.cell? ⟨0, 3, none⟩ = some (.int .u32 1000) := hP 3 (by omega)
  have q4 : w.cell? ⟨0, 4, none⟩ = some (.int .u32 10000) := hP 4 (by omega)
  have q5 : w.cell? ⟨0, 5, none⟩ = some (.int .u32 100000) := hP 5 (by omega)
  have q6 : w.cell? ⟨0, 6, none⟩ = some (.int .u32 1000000) := hP 6 (by omega)
  have q7 : w.cell? ⟨0, 7, none⟩ = some (.int .u32 10000000) := hP 7 (by omega)
  have q8 : w.cell? ⟨0, 8, none⟩ = some (.int .u32 100000000) := hP 8 (by omega)
  have hL9 : (decs x).length ≤ 9 := decs_len hx
  have hle : ∀ k, k < 9 → (decide ((((10 ^ k : Nat) : Nat) : Int) ≤ (x : Int))) = decide (k < (decs x).length) := fun k _ => by
    rw [decide_eq_decide, ← pow_le_iff]; omega
  have HLE := Lib.hid hle
  clear hle hP
  generalize (decs x).length = L at *
  have i0 : ∀ w, (Instr.index 42 (.agg #[.int .u32 1, .int .u32 10, .int .u32 100, .int .u32 1000, .int .u32 10000, .int .u32 100000, .int .u32 1000000, .int .u32 10000000, .int .u32 100000000]) (.int .i64 0)).run Tryd.prog w = .ok (.int .u32 1) w := fun _ => by kernel_rfl
  have i1 : ∀ w, (Instr.index 42 (.agg #[.int .u32 1, .int .u32 10, .int .u32 100, .int .u32 1000, .int .u32 10000, .int .u32 100000, .int .u32 1000000, .int .u32 10000000, .int .u32 100000000]) (.int .i64 1)).run Tryd.prog w = .ok (.int .u32 10) w := fun _ => by kernel_rfl
  have i2 : ∀ w, (Instr.index 42 (.agg #[.int .u32 1, .int .u32 10, .int .u32 100, .int .u32 1000, .int .u32 10000, .int .u32 100000, .int .u32 1000000, .int .u32 10000000, .int .u32 100000000]) (.int .i64 2)).run Tryd.prog w = .ok (.int .u32 100) w := fun _ => by kernel_rfl
  have i3 : ∀ w, (Instr.index 42 (.agg #[.int .u32 1, .int .u32 10, .int .u32 100, .int .u32 1000, .int .u32 10000, .int .u32 100000, .int .u32 1000000, .int .u32 10000000, .int .u32 100000000]) (.int .i64 3)).run Tryd.prog w = .ok (.int .u32 1000) w := fun _ => by kernel_rfl
  have i4 : ∀ w, (Instr.index 42 (.agg #[.int .u32 1, .int .u32 10, .int .u32 100, .int .u32 1000, .int .u32 10000, .int .u32 100000, .int .u32 1000000, .int .u32 10000000, .int .u32 100000000]) (.int .i64 4)).run Tryd.prog w = .ok (.int .u32 10000) w := fun _ => by kernel_rfl
  have i5 : ∀ w, (Instr.index 42 (.agg #[.int .u32 1, .int .u32 10, .int .u32 100, .int .u32 1000, .int .u32 10000, .int .u32 100000, .int .u32 1000000, .int .u32 10000000, .int .u32 100000000]) (.int .i64 5)).run Tryd.prog w = .ok (.int .u32 100000) w := fun _ => by kernel_rfl
  have i6 : ∀ w, (Instr.index 42 (.agg #[.int .u32 1, .int .u32 10, .int .u32 100, .int .u32 1000, .int .u32 10000, .int .u32 100000, .int .u32 1000000, .int .u32 10000000, .int .u32 100000000]) (.int .i64 6)).run Tryd.prog w = .ok (.int .u32 1000000) w := fun _ => by kernel_rfl
  have i7 : ∀ w, (Instr.index 42 (.agg #[.int .u32 1, .int .u32 10, .int .u32 100, .int .u32 1000, .int .u32 10000, .int .u32 100000, .int .u32 1000000, .int .u32 10000000, .int .u32 100000000]) (.int .i64 7)).run Tryd.prog w = .ok (.int .u32 10000000) w := fun _ => by kernel_rfl
  have i8 : ∀ w, (Instr.index 42 (.agg #[.int .u32 1, .int .u32 10, .int .u32 100, .int .u32 1000, .int .u32 10000, .int .u32 100000, .int .u32 1000000, .int .u32 10000000, .int .u32 100000000]) (.int .i64 8)).run Tryd.prog w = .ok (.int .u32 100000000) w := fun _ => by kernel_rfl
  go_enter Tryd.func25, Tryd.ntmps25
  go_wp2
  clear q0 q1 q2 q3 q4 q5 q6 q7 q8
  go_loop [3, 7] (fun n i => ∃ k : Nat, k ≤ 9 ∧ i = .int .i64 k ∧ n = .int .i64 (min k L : Nat)) (fun _ i => 9 - (intOf i).toNat)
  case atStart => exact ⟨0, by omega, rfl, by simp⟩
  case round =>
    obtain ⟨k, hk, rfl, rfl⟩ := hrel
    by_cases h9 : k = 9
    · subst h9
      go_wp2
      go_ret
      exact ⟨ret_int (by omega), rfl⟩
    · have hk9 : k < 9 := by omega
      have hb := HLE.out k hk9
      by_cases hlt : k < L
      · rw [decide_eq_true hlt] at hb
        have hm : min k L = k := by omega
        rw [hm]
        obtain rfl | rfl | rfl | rfl | rfl | rfl | rfl | rfl | rfl : k = 0 ∨ k = 1 ∨ k = 2 ∨ k = 3 ∨ k = 4 ∨ k = 5 ∨ k = 6 ∨ k = 7 ∨ k = 8 := by omega
        · have hb' : decide (((1 : Int)) ≤ (x : Int)) = true := hb
          clear hk h9 hk9 hm hb
          go_wp2
          go_round
          case rel => exact ⟨1, by omega, by first | rfl | go_num, by rw [show min 1 L = 1 by omega]; first | rfl | go_num⟩
          case measure => simp [intOf]
        · have hb' : decide (((10 : Int)) ≤ (x : Int)) = true := hb
          clear hk h9 hk9 hm hb
          go_wp2
          go_round
          case rel => exact ⟨2, by omega, by first | rfl | go_num, by rw [show min 2 L = 2 by omega]; first | rfl | go_num⟩
          case measure => simp [intOf]
        · have hb' : decide (((100 : Int)) ≤ (x : Int)) = true := hb
          clear hk h9 hk9 hm hb
          go_wp2
          go_round
          case rel => exact ⟨3, by omega, by first | rfl | go_num, by rw [show min 3 L = 3 by omega]; first | rfl | go_num⟩
          case measure => simp [intOf]
        · have hb' : decide (((1000 : Int)) ≤ (x : Int)) = true := hb
          clear hk h9 hk9 hm hb
          go_wp2
          go_round
          case rel => exact ⟨4, by omega, by first | rfl | go_num, by rw [show min 4 L = 4 by omega]; first | rfl | go_num⟩
          case measure => simp [intOf]
        · have hb' : decide (((10000 : Int)) ≤ (x : Int)) = true := hb
          clear hk h9 hk9 hm hb
          go_wp2
          go_round
          case rel => exact ⟨5, by omega, by first | rfl | go_num, by rw [show min 5 L = 5 by omega]; first | rfl | go_num⟩
          case measure => simp [intOf]
        · have hb' : decide (((100000 : Int)) ≤ (x : Int)) = true := hb
          clear hk h9 hk9 hm hb
          go_wp2
          go_round
          case rel => exact ⟨6, by omega, by first | rfl | go_num, by rw [show min 6 L = 6 by omega]; first | rfl | go_num⟩
          case measure => simp [intOf]
        · have hb' : decide (((1000000 : Int)) ≤ (x : Int)) = true := hb
          clear hk h9 hk9 hm hb
          go_wp2
          go_round
          case rel => exact ⟨7, by omega, by first | rfl | go_num, by rw [show min 7 L = 7 by omega]; first | rfl | go_num⟩
          case measure => simp [intOf]
        · have hb' : decide (((10000000 : Int)) ≤ (x : Int)) = true := hb
          clear hk h9 hk9 hm hb
          go_wp2
          go_round
          case rel => exact ⟨8, by omega, by first | rfl | go_num, by rw [show min 8 L = 8 by omega]; first | rfl | go_num⟩
          case measure => simp [intOf]
        · have hb' : decide (((100000000 : Int)) ≤ (x : Int)) = true := hb
          clear hk h9 hk9 hm hb
          go_wp2
          go_round
          case rel => exact ⟨9, by omega, by first | rfl | go_num, by rw [show min 9 L = 9 by omega]; first | rfl | go_num⟩
          case measure => simp [intOf]
      · rw [decide_eq_false hlt] at hb
        have hm : min k L = L := by omega
        rw [hm]
        obtain rfl | rfl | rfl | rfl | rfl | rfl | rfl | rfl | rfl : k = 0 ∨ k = 1 ∨ k = 2 ∨ k = 3 ∨ k = 4 ∨ k = 5 ∨ k = 6 ∨ k = 7 ∨ k = 8 := by omega
        · have hb' : decide (((1 : Int)) ≤ (x : Int)) = false := hb
          clear hk h9 hk9 hm hb
          go_wp2
          go_round
          case rel => exact ⟨1, by omega, by first | rfl | go_num, by rw [show min 1 L = L by omega]⟩
          case measure => simp [intOf]
        · have hb' : decide (((10 : Int)) ≤ (x : Int)) = false := hb
          clear hk h9 hk9 hm hb
          go_wp2
          go_round
          case rel => exact ⟨2, by omega, by first | rfl | go_num, by rw [show min 2 L = L by omega]⟩
          case measure => simp [intOf]
        · have hb' : decide (((100 : Int)) ≤ (x : Int)) = false := hb
          clear hk h9 hk9 hm hb
          go_wp2
          go_round
          case rel => exact ⟨3, by omega, by first | rfl | go_num, by rw [show min 3 L = L by omega]⟩
          case measure => simp [intOf]
        · have hb' : decide (((1000 : Int)) ≤ (x : Int)) = false := hb
          clear hk h9 hk9 hm hb
          go_wp2
          go_round
          case rel => exact ⟨4, by omega, by first | rfl | go_num, by rw [show min 4 L = L by omega]⟩
          case measure => simp [intOf]
        · have hb' : decide (((10000 : Int)) ≤ (x : Int)) = false := hb
          clear hk h9 hk9 hm hb
          go_wp2
          go_round
          case rel => exact ⟨5, by omega, by first | rfl | go_num, by rw [show min 5 L = L by omega]⟩
          case measure => simp [intOf]
        · have hb' : decide (((100000 : Int)) ≤ (x : Int)) = false := hb
          clear hk h9 hk9 hm hb
          go_wp2
          go_round
          case rel => exact ⟨6, by omega, by first | rfl | go_num, by rw [show min 6 L = L by omega]⟩
          case measure => simp [intOf]
        · have hb' : decide (((1000000 : Int)) ≤ (x : Int)) = false := hb
          clear hk h9 hk9 hm hb
          go_wp2
          go_round
          case rel => exact ⟨7, by omega, by first | rfl | go_num, by rw [show min 7 L = L by omega]⟩
          case measure => simp [intOf]
        · have hb' : decide (((10000000 : Int)) ≤ (x : Int)) = false := hb
          clear hk h9 hk9 hm hb
          go_wp2
          go_round
          case rel => exact ⟨8, by omega, by first | rfl | go_num, by rw [show min 8 L = L by omega]⟩
          case measure => simp [intOf]
        · have hb' : decide (((100000000 : Int)) ≤ (x : Int)) = false := hb
          clear hk h9 hk9 hm hb
          go_wp2
          go_round
          case rel => exact ⟨9, by omega, by first | rfl | go_num, by rw [show min 9 L = L by omega]⟩
          case measure => simp [intOf]
end Go.Proofs.YtpbkndmciopnjaaDoor
