/-
  UF: what a slice of runes that came in is to the walks; small numbers.
-/
import Derived.Test.YtiflkkmeloclfaaKB
import Derived.Test.YtiflkkmeloclfaaMA
set_option maxRecDepth 100000
namespace Go.Proofs.Ytiflkkmeloclfaa
open Go.ChangeShapes Go.WideShapes Go.ChangeAt Go.RowKit
theorem bytesI32 : Try.prog.bytesOf 21 = 4 := by kernel_rfl
theorem cellsI32 : Try.prog.cellsOf 21 = 1 := by kernel_rfl
theorem u8_range {n : Int} (h : (Lit.int .u8 n).wf = true) : 0 ≤ n ∧ n ≤ 255 := by
  have e1 : IntKind.u8.min = 0 := rfl
  have e2 : IntKind.u8.max = 255 := rfl
  simp only [Lit.wf, Bool.and_eq_true, decide_eq_true_eq] at h
  omega
theorem u16_range {n : Int} (h : (Lit.int .u16 n).wf = true) : 0 ≤ n ∧ n ≤ 65535 := by
  have e1 : IntKind.u16.min = 0 := rfl
  have e2 : IntKind.u16.max = 65535 := rfl
  simp only [Lit.wf, Bool.and_eq_true, decide_eq_true_eq] at h
  omega
theorem i32_range {n : Int} (h : (Lit.int .i32 n).wf = true) : -2147483648 ≤ n ∧ n ≤ 2147483647 := by
  have e1 : IntKind.i32.min = -2147483648 := rfl
  have e2 : IntKind.i32.max = 2147483647 := rfl
  simp only [Lit.wf, Bool.and_eq_true, decide_eq_true_eq] at h
  omega
/-- No text that came in is longer. -/
theorem str_reach {H : Type} {s : ByteArray} {ts : List TypeId} {ds : List (DataW H)} {j : Nat} {t : TypeId} {d : DataW H} (hsz : (DataW.weightsEach Try.prog ts ds).all (· ≤ reachBytes) = true)
    (ht : ts[j]? = some t) (hd : ds[j]? = some d) (he : d = .lit (.string s.data.toList)) : s.size ≤ 140737488355328 := by
  subst he
  have h := sized_string hsz ht hd
  unfold reachBytes at h
  have h2 : s.data.toList.length = s.size := Array.length_toList
  omega
theorem rns_of_ints {W : World} {x : Addr} {l c : Nat} {zs : List Int} (hl : l ≤ c) (hz : zs.length = c) (hcell : ∀ i, i < zs.length → W.cell? (x.add i) = some (.int .i32 (zs.getD i 0)))
    (hwz : ∀ n ∈ zs, (Lit.int .i32 n).wf = true) (hr : c * 4 ≤ reachBytes) : Rns W (some x) l (zs.take l) := by
  refine ⟨⟨by simp [i32s]; omega, fun h0 => ⟨x, rfl, ?_, ?_⟩⟩, by unfold reachBytes at hr; omega, ?_⟩
  · have := World.block_lt_of_cell? W _ (hcell 0 (by omega))
    rwa [block_of_add] at this
  · intro j u hu
    have hj : j < l := by
      have h2 := (List.getElem?_eq_some_iff.1 hu).1
      simp [i32s] at h2
      omega
    rw [hcell j (by omega), ← hu, i32s_get, List.getElem?_take, if_pos hj, List.getD, List.getElem?_eq_getElem (by omega)]
    rfl
  · intro y hy
    exact i32_range (hwz _ (List.mem_of_mem_take hy))
end Go.Proofs.Ytiflkkmeloclfaa
