/-
  KB: Frame, Frame2, Frame3.
-/
import Derived.ProofKit
import Derived.OpenShut
import Derived.ShutString
import Derived.ChangeOld
import Derived.SizedLaws
import Derived.ChangeMaps5
import Derived.Test.YtiflkkmeloclfaaKA
/- Frame -/
/-
  What a slice of limbs that came in is to the walks.
-/
set_option maxRecDepth 100000
namespace Go.Proofs.Ytiflkkmeloclfaa
open Go.ChangeShapes Go.WideShapes Go.ChangeAt Go.RowKit

theorem frameOwn : ownKnob Try.prog.godebug = none := by kernel_rfl
theorem frameLaid : laidOutB Try.prog = true := by kernel_rfl
theorem bytesU32 : Try.prog.bytesOf 51 = 4 := by kernel_rfl
theorem cellsU32 : Try.prog.cellsOf 51 = 1 := by kernel_rfl

theorem limbs_of_ints {W : World} {x : Addr} {l c : Nat} {zs : List Int} (hl : l ≤ c) (hz : zs.length = c) (hcell : ∀ i, i < zs.length → W.cell? (x.add i) = some (.int .u32 (zs.getD i 0)))
    (hwz : ∀ n ∈ zs, (Lit.int .u32 n).wf = true) (hr : c * 4 ≤ reachBytes) : Limbs W (some x) l ((zs.take l).map Int.toNat) := by
  have hb : ∀ n ∈ zs, 0 ≤ n ∧ n < 4294967296 := by
    intro n hn
    have h1 := hwz n hn
    have e1 : IntKind.u32.min = 0 := rfl
    have e2 : IntKind.u32.max = 4294967295 := rfl
    simp only [Lit.wf, Bool.and_eq_true, decide_eq_true_eq] at h1
    omega
  refine ⟨⟨by simp [u32s]; omega, fun h0 => ⟨x, rfl, ?_, ?_⟩⟩, by unfold reachBytes at hr; omega, ?_⟩
  · have := World.block_lt_of_cell? W _ (hcell 0 (by omega))
    rwa [block_of_add] at this
  · intro j u hu
    have hj : j < l := by
      have h2 := (List.getElem?_eq_some_iff.1 hu).1
      simp [u32s] at h2
      omega
    rw [hcell j (by omega), ← hu, u32s_get, List.getElem?_map, List.getElem?_take, if_pos hj, List.getD, List.getElem?_eq_getElem (by omega)]
    have := (hb _ (List.getElem_mem (show j < zs.length by omega))).1
    simp only [Option.getD_some, Option.map_some]
    rw [Int.toNat_of_nonneg this]
  · intro y hy
    obtain ⟨n, hn, rfl⟩ := List.mem_map.1 hy
    have := hb n (List.mem_of_mem_take hn)
    omega
theorem limbs_nil (W : World) : Limbs W none 0 [] := ⟨Reads.none_, by omega, by simp⟩

end Go.Proofs.Ytiflkkmeloclfaa
/- Frame2 -/
namespace Go.Proofs.Ytiflkkmeloclfaa
open Go.ChangeShapes Go.WideShapes Go.ChangeAt Go.RowKit
theorem u32_of_wf {n : Int} (h : (Lit.int .u32 n).wf = true) : ∃ k : Nat, n = (k : Int) ∧ k < 4294967296 := by
  have e1 : IntKind.u32.min = 0 := rfl
  have e2 : IntKind.u32.max = 4294967295 := rfl
  simp only [Lit.wf, Bool.and_eq_true, decide_eq_true_eq] at h
  exact ⟨n.toNat, by omega, by omega⟩
theorem i64_of_wf {n : Int} (h : (Lit.int .i64 n).wf = true) : -9223372036854775808 ≤ n ∧ n ≤ 9223372036854775807 := by
  have e1 : IntKind.i64.min = -9223372036854775808 := rfl
  have e2 : IntKind.i64.max = 9223372036854775807 := rfl
  simp only [Lit.wf, Bool.and_eq_true, decide_eq_true_eq] at h
  omega
end Go.Proofs.Ytiflkkmeloclfaa
/- Frame3 -/
namespace Go.Proofs.Ytiflkkmeloclfaa
open Go.ChangeShapes Go.WideShapes Go.ChangeAt Go.RowKit
theorem u8_of_wf {n : Int} (h : (Lit.int .u8 n).wf = true) : ∃ k : Nat, n = (k : Int) ∧ k < 256 := by
  have e1 : IntKind.u8.min = 0 := rfl
  have e2 : IntKind.u8.max = 255 := rfl
  simp only [Lit.wf, Bool.and_eq_true, decide_eq_true_eq] at h
  exact ⟨n.toNat, by omega, by omega⟩
end Go.Proofs.Ytiflkkmeloclfaa
