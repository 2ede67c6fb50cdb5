import Derived.Test.YtpbkndmciopnjaaDoorRefF
namespace Go.Proofs.YtpbkndmciopnjaaDoor
open Go.RowKit
theorem limbs_new (w : World) (x : Nat) (hx : x < 4294967296) (E : Int) (hE : E = (x : Int)) : Limbs (w.alloc (.cells #[.int .u32 E] 39)) (some ⟨w.heap.size, 0, none⟩) 1 [x] := by
  subst hE
  refine ⟨⟨rfl, fun _ => ⟨_, rfl, by simp, ?_⟩⟩, by omega, by simpa using hx⟩
  exact cells_one w (.int .u32 (x : Int)) 39
theorem base_two : digs 1000000000 (val 1000000000 [999999999] + val 1000000000 [1]) = [0, 1] := by
  have h := trim_eq_digs 1000000000 (by omega) [0, 1] (by intro x hx; simp at hx; omega)
  have e : val 1000000000 [0, 1] = val 1000000000 [999999999] + val 1000000000 [1] := by simp only [val]
  rw [e] at h
  rw [← h]; rfl
theorem base_one : digs 1000000000 (val 1000000000 [0, 1] - val 1000000000 [1]) = [999999999] := by
  have h := trim_eq_digs 1000000000 (by omega) [999999999] (by intro x hx; simp at hx; omega)
  have e : val 1000000000 [999999999] = val 1000000000 [0, 1] - val 1000000000 [1] := by simp only [val]
  rw [e] at h
  rw [← h]; rfl
theorem base_lt : ∀ x ∈ [999999999], x < 1000000000 := by intro x hx; simp at hx; omega
theorem base_lt1 : ∀ x ∈ [1], x < 1000000000 := by intro x hx; simp at hx; omega
theorem base_lt2 : ∀ x ∈ [0, 1], x < 1000000000 := by intro x hx; simp at hx; omega
end Go.Proofs.YtpbkndmciopnjaaDoor
