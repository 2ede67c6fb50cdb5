/-
  YB: strings.Builder by hand: a builder in memory; copyCheck.
-/
import Derived.Deep.DeepCutAuto
import Derived.Shelf.Strings.BuilderF
import Derived.Lib.UnsafeStr
import Derived.Lib.RuneBytes
import Derived.Laws.Externs
import Derived.Test.YtiflkkmeloclfaaMB
set_option maxRecDepth 100000
namespace Go.Proofs.Ytiflkkmeloclfaa
open Go.RowKit
/-- A builder at block b: its own address, its row, its bytes. -/
structure Bld (w : World) (b : Nat) (p v : Value) (l : List Nat) : Prop where
  bx : BX w b #[p, v] 36
  own : w.ownsRow (b + 1) 5 1 v l.length (u8s l)
theorem bld_info : (Try.prog.info? 36).map (·.size) = some 2 := by kernel_rfl
theorem bld_lies : liesAt Try.prog Try.prog.depth 36 (2 / Try.prog.cellsOf 36) 0 36 1 = true := by kernel_rfl
set_option maxHeartbeats 2000000 in
theorem copyCheck0 (b : Nat) (v : Value) (l : List Nat) (w : World) (h : Bld w b (.pointer none) v l) : Calls Try.prog 17 #[.pointer (some ⟨b, 0, none⟩)] w fun e w' =>
    e = .returned (.tuple #[]) ∧ w' = w.setCell ⟨b, 0, none⟩ (.pointer (some ⟨b, 0, none⟩)) := by
  obtain ⟨j, hj, hjs⟩ := Option.map_eq_some_iff.1 bld_info
  have d0 := h.bx.c 0
  have f0 := h.bx.fr 0
  have hsh : w.shape? b = some (36, 2) := by simp [World.shape?, show w.heap[b]? = _ from h.bx]
  clear h
  go_enter Try.func17, Try.ntmps17
  go_wp2
  rw [Lib.run_to_unsafe w ⟨b, 0, none⟩ Try.underlying33 Try.underlying43 hj (by rw [hjs]; decide) hsh (Nat.zero_lt_succ 1)]
  simp only [Result.andThen]
  rw [Oper.upon_value]
  go_wp2
  rw [run_callFunc_extern Try.func18 (by kernel_rfl) (by kernel_rfl) (by kernel_rfl) (e := Extern.AbiNoEscape.same) (by kernel_rfl)]
  rw [Lib.run_noEscape]
  simp only [Result.andThen]
  rw [Oper.upon_value]
  go_wp2
  rw [Lib.run_from_unsafe w ⟨b, 0, none⟩ Try.underlying43 Try.underlying33 hj hsh bld_lies]
  simp only [Result.andThen]
  rw [Oper.upon_value]
  go_wp2
  go_end0
  exact ⟨rfl, rfl⟩
set_option maxHeartbeats 2000000 in
theorem copyCheck1 (b : Nat) (v : Value) (l : List Nat) (w : World) (h : Bld w b (.pointer (some ⟨b, 0, none⟩)) v l) : Calls Try.prog 17 #[.pointer (some ⟨b, 0, none⟩)] w fun e w' =>
    e = .returned (.tuple #[]) ∧ w' = w := by
  obtain ⟨j, hj, hjs⟩ := Option.map_eq_some_iff.1 bld_info
  have d0 := h.bx.c 0
  clear h
  go_enter Try.func17, Try.ntmps17
  go_wp2
  rw [Lib.run_neq_ptr_same w _ Try.underlying33 hj]
  go_wp2
  go_end0
  exact ⟨rfl, rfl⟩
theorem copyCheck_c (b : Nat) (p v : Value) (l : List Nat) (w : World) (hp : p = .pointer none ∨ p = .pointer (some ⟨b, 0, none⟩)) (h : Bld w b p v l) : Calls Try.prog 17 #[.pointer (some ⟨b, 0, none⟩)] w fun e w' =>
    e = .returned (.tuple #[]) ∧ Hid (Bld w' b (.pointer (some ⟨b, 0, none⟩)) v l) ∧ Hid (Below b w w') := by
  rcases hp with rfl | rfl
  · refine (copyCheck0 b v l w h).mono ?_
    rintro e w' ⟨rfl, rfl⟩
    exact ⟨rfl, Lib.hid ⟨heap_setCell_same w b 0 _ _ _ h.bx, own_setCell h.own (p := ⟨b, 0, none⟩) (Nat.lt_succ_self b) _⟩, Lib.hid ((Below.refl b w).setCell (p := ⟨b, 0, none⟩) (Nat.le_refl _) _)⟩
  · refine (copyCheck1 b v l w h).mono ?_
    rintro e w' ⟨rfl, rfl⟩
    exact ⟨rfl, Lib.hid h, Lib.hid (Below.refl _ _)⟩
end Go.Proofs.Ytiflkkmeloclfaa
