/-
  ClearTwoUptoSaid is proved: whatever the arguments, as far as together they hold no more values and letters than the given row says, the Go function ClearTwo returns true, and each argument reads afterwards as it read before.
  Conditions: none beside those that the given row prints.
-/
import Derived.Test.YtohfadegildnaaaQClearTwoWalk
import Derived.Test.YtohfadegildnaaaQKA
import Derived.Test.YtohfadegildnaaaQMA
import Derived.Deep.CondSized
import Derived.Test.YtohfadegildnaaaQCA
namespace Go.Proofs.Ytohfadegildnaaa.clearTwo
open Go.ChangeShapes Go.WideShapes Go.ChangeAt Go.RowKit
open Go.ChangeMaps (open_string)
set_option linter.unusedVariables false

set_option maxRecDepth 100000 in
theorem lifted (os : Os) (started : os.Started) (H : Type) (enc : TypeId × Value → H) (F : Stop.Interp) :
    ReturnsInHanded {} Try.checked os 4 .any ((Rows.OpenSpec.upto Rows.clearTwoSpec).pre6 enc Try.prog Try.f4 Rows.clearTwoUptoRow.domain false) (((Rows.OpenSpec.upto Rows.clearTwoSpec).at F).post enc Try.prog Try.f4 false true false false) := by
  refine returnsInHanded_of_cond_sized (C := Try.checked) (s := Rows.OpenSpec.upto Rows.clearTwoSpec) (k := Rows.uptoSmall) rfl qGC started (by kernel_rfl) Try.func4
    (OpenSpec.witness (enc := enc) (C := Try.checked) (s := Rows.OpenSpec.upto Rows.clearTwoSpec) (k := Rows.uptoSmall) rfl false ⟨#[], #[.string ⟨#[]⟩, .agg #[.int .i32 0, .string ⟨#[]⟩, .string ⟨#[]⟩, .string ⟨#[]⟩, .string ⟨#[]⟩, .string ⟨#[]⟩, .string ⟨#[]⟩, .string ⟨#[]⟩, .string ⟨#[]⟩]], []⟩ 8 (by kernel_rfl) (by kernel_rfl) (by kernel_rfl)
      (x := ([.lit (.string []), .agg [.lit (.int .i32 0), .lit (.string []), .lit (.string []), .lit (.string []), .lit (.string []), .lit (.string []), .lit (.string []), .lit (.string []), .lit (.string [])]], [], [])) (by kernel_rfl) rfl (by kernel_rfl)) ?_
  intro W base args ds gs before hval0 hW _ hk hsz0 _
  have hsz : (DataW.weightsEach Try.prog (Try.f4.params.toList ++ Rows.clearTwoSpec.plain.varTypes Try.prog) (ds ++ gs)).all (· ≤ reachBytes) = true := hsz0
  have hval : ∀ (j : Nat) t v, Try.f4.params[j]? = some t → args[j]? = some v → Value.okWide Try.prog W .any base t v := hval0
  have hW' := hW
  obtain ⟨p, q, hA0, hV, rfl, hfz, hnd⟩ := hW
  have hA : DataW.TrodAll enc Try.prog W 0 (fun _ => true) true Try.f4.params.toList args.toList ds p := hA0
  rw [Try.params4] at hA hval hsz
  obtain ⟨v0, vs0, d0, ds0, p0, q0, hargs, rfl, rfl, h0, r0⟩ := trodAll_cons hA
  obtain ⟨v1, vs1, d1, ds1, p1, q1, rfl, rfl, rfl, h1, r1⟩ := trodAll_cons r0
  obtain ⟨rfl, rfl, rfl⟩ := trodAll_nil r1
  obtain rfl : args = #[v0, v1] := by cases args; simp_all
  obtain ⟨rfl, rfl⟩ := trodVars_none hV
  obtain ⟨k0, rfl, rfl, -, w0⟩ := open_string Try.underlying9 (hval 0 9 v0 rfl rfl) h0
  have lt0 : ∀ x ∈ p0, x.block < W.heap.size := by obtain ⟨m, hm⟩ := h0; exact DataW.trod_lt m _ _ _ hm
  have lt1 : ∀ x ∈ p1, x.block < W.heap.size := by obtain ⟨m, hm⟩ := h1; exact DataW.trod_lt m _ _ _ hm
  obtain ⟨z1, s1_0, s1_1, s1_2, s1_3, s1_4, s1_5, s1_6, s1_7, rfl, wz1, l1, dd1⟩ := qH4 (hval 1 23 v1 rfl rfl) h1
  clear hA0 hval0
  subst dd1
  have hbulk := of_decide_eq_true hk
  simp only [List.append_nil, Rows.uptoBulkAll, Rows.uptoBulk] at hbulk
  have e0 : k0.data.toList.length = k0.size := by rw [Array.length_toList]; rfl
  have sm0 : k0.size ≤ 1048576 := by omega
  have es1_0 : s1_0.data.toList.length = s1_0.size := by rw [Array.length_toList]; rfl
  have es1_1 : s1_1.data.toList.length = s1_1.size := by rw [Array.length_toList]; rfl
  have es1_2 : s1_2.data.toList.length = s1_2.size := by rw [Array.length_toList]; rfl
  have es1_3 : s1_3.data.toList.length = s1_3.size := by rw [Array.length_toList]; rfl
  have es1_4 : s1_4.data.toList.length = s1_4.size := by rw [Array.length_toList]; rfl
  have es1_5 : s1_5.data.toList.length = s1_5.size := by rw [Array.length_toList]; rfl
  have es1_6 : s1_6.data.toList.length = s1_6.size := by rw [Array.length_toList]; rfl
  have es1_7 : s1_7.data.toList.length = s1_7.size := by rw [Array.length_toList]; rfl
  have ws1 : ∀ k, k < 8 → (tx8 s1_0 s1_1 s1_2 s1_3 s1_4 s1_5 s1_6 s1_7 k).size ≤ 1048576 := by
    intro k hk
    obtain rfl | rfl | rfl | rfl | rfl | rfl | rfl | rfl : k = 0 ∨ k = 1 ∨ k = 2 ∨ k = 3 ∨ k = 4 ∨ k = 5 ∨ k = 6 ∨ k = 7 := by omega
    all_goals (simp only [tx8, List.getD_cons_zero, List.getD_cons_succ] at hbulk ⊢; omega)
  refine (qGB k0 z1 s1_0 s1_1 s1_2 s1_3 s1_4 s1_5 s1_6 s1_7 W sm0 wz1 ws1).mono fun e W' ⟨he, bel⟩ => ?_
  subst he
  exact ⟨_, rfl, _, _, _, [], _, [], hW', trodAll_mk1 (shut_bool Try.underlying4 _), (trodAll_cons_mk (Below.trod qBQ (by kernel_rfl) (of_decide_eq_true (by kernel_rfl)) h0 bel lt0) (trodAll_cons_mk (Below.trod qBQ (by kernel_rfl) (of_decide_eq_true (by kernel_rfl)) h1 bel lt1) trodAll_mk0)), rfl, bel.frame _, fun h => by cases h⟩

/-- The statement. -/
theorem proved : Rows.ClearTwoUptoSaid :=
  OpenClaim.holds_of_cond 4 Try.f4 rfl rfl rfl rfl rfl rfl rfl ⟨rfl, rfl, rfl, rfl, rfl⟩ rfl rfl rfl rfl rfl (by kernel_rfl) Try.func4 (by kernel_rfl)
    (of_decide_eq_true (by kernel_rfl)) (by unfold Func.isWrapper; first | (rw [if_pos (by decide +kernel)]; kernel_rfl) | (rw [if_neg (by decide +kernel)]; exact ⟨rfl, rfl⟩))
    (fun os started H enc _ F => lifted os started H enc F)
end Go.Proofs.Ytohfadegildnaaa.clearTwo

