/-
  ClearNumberUptoSaid is proved: whatever the arguments, as far as together they hold no more values and letters than the given row says, the Go function ClearNumber returns true, and each argument reads afterwards as it read before.
  Conditions: none beside those that the given row prints.
-/
import Derived.Test.YtohfadegildnaaaQClearNumberWalk
import Derived.Test.YtohfadegildnaaaQKA
import Derived.Test.YtohfadegildnaaaQMA
import Derived.Deep.CondSized
import Derived.Test.YtohfadegildnaaaQCA
namespace Go.Proofs.Ytohfadegildnaaa.clearNumber
open Go.ChangeShapes Go.WideShapes Go.ChangeAt Go.RowKit
open Go.ChangeMaps (open_string)
set_option linter.unusedVariables false

set_option maxRecDepth 100000 in
theorem lifted (os : Os) (started : os.Started) (H : Type) (enc : TypeId × Value → H) (F : Stop.Interp) :
    ReturnsInHanded {} Try.checked os 5 .any ((Rows.OpenSpec.upto Rows.clearNumberSpec).pre6 enc Try.prog Try.f5 Rows.clearNumberUptoRow.domain false) (((Rows.OpenSpec.upto Rows.clearNumberSpec).at F).post enc Try.prog Try.f5 false true false false) := by
  refine returnsInHanded_of_cond_sized (C := Try.checked) (s := Rows.OpenSpec.upto Rows.clearNumberSpec) (k := Rows.uptoSmall) rfl qGC started (by kernel_rfl) Try.func5
    (OpenSpec.witness (enc := enc) (C := Try.checked) (s := Rows.OpenSpec.upto Rows.clearNumberSpec) (k := Rows.uptoSmall) rfl false ⟨#[], #[.string ⟨#[]⟩, .string ⟨#[]⟩, .agg #[.int .i32 0, .string ⟨#[]⟩, .string ⟨#[]⟩, .string ⟨#[]⟩, .string ⟨#[]⟩, .string ⟨#[]⟩, .string ⟨#[]⟩, .string ⟨#[]⟩, .string ⟨#[]⟩]], []⟩ 8 (by kernel_rfl) (by kernel_rfl) (by kernel_rfl)
      (x := ([.lit (.string []), .lit (.string []), .agg [.lit (.int .i32 0), .lit (.string []), .lit (.string []), .lit (.string []), .lit (.string []), .lit (.string []), .lit (.string []), .lit (.string []), .lit (.string [])]], [], [])) (by kernel_rfl) rfl (by kernel_rfl)) ?_
  intro W base args ds gs before hval0 hW _ hk hsz0 _
  have hsz : (DataW.weightsEach Try.prog (Try.f5.params.toList ++ Rows.clearNumberSpec.plain.varTypes Try.prog) (ds ++ gs)).all (· ≤ reachBytes) = true := hsz0
  have hval : ∀ (j : Nat) t v, Try.f5.params[j]? = some t → args[j]? = some v → Value.okWide Try.prog W .any base t v := hval0
  have hW' := hW
  obtain ⟨p, q, hA0, hV, rfl, hfz, hnd⟩ := hW
  have hA : DataW.TrodAll enc Try.prog W 0 (fun _ => true) true Try.f5.params.toList args.toList ds p := hA0
  rw [Try.params5] at hA hval hsz
  obtain ⟨v0, vs0, d0, ds0, p0, q0, hargs, rfl, rfl, h0, r0⟩ := trodAll_cons hA
  obtain ⟨v1, vs1, d1, ds1, p1, q1, rfl, rfl, rfl, h1, r1⟩ := trodAll_cons r0
  obtain ⟨v2, vs2, d2, ds2, p2, q2, rfl, rfl, rfl, h2, r2⟩ := trodAll_cons r1
  obtain ⟨rfl, rfl, rfl⟩ := trodAll_nil r2
  obtain rfl : args = #[v0, v1, v2] := by cases args; simp_all
  obtain ⟨rfl, rfl⟩ := trodVars_none hV
  obtain ⟨k0, rfl, rfl, -, w0⟩ := open_string Try.underlying9 (hval 0 9 v0 rfl rfl) h0
  have lt0 : ∀ x ∈ p0, x.block < W.heap.size := by obtain ⟨m, hm⟩ := h0; exact DataW.trod_lt m _ _ _ hm
  obtain ⟨k1, rfl, rfl, -, w1⟩ := open_string Try.underlying9 (hval 1 9 v1 rfl rfl) h1
  have lt1 : ∀ x ∈ p1, x.block < W.heap.size := by obtain ⟨m, hm⟩ := h1; exact DataW.trod_lt m _ _ _ hm
  have lt2 : ∀ x ∈ p2, x.block < W.heap.size := by obtain ⟨m, hm⟩ := h2; exact DataW.trod_lt m _ _ _ hm
  obtain ⟨z2, s2_0, s2_1, s2_2, s2_3, s2_4, s2_5, s2_6, s2_7, rfl, wz2, l2, dd2⟩ := qH4 (hval 2 23 v2 rfl rfl) h2
  clear hA0 hval0
  subst dd2
  have hbulk := of_decide_eq_true hk
  simp only [List.append_nil, Rows.uptoBulkAll, Rows.uptoBulk] at hbulk
  have e0 : k0.data.toList.length = k0.size := by rw [Array.length_toList]; rfl
  have sm0 : k0.size ≤ 1048576 := by omega
  have e1 : k1.data.toList.length = k1.size := by rw [Array.length_toList]; rfl
  have sm1 : k1.size ≤ 1048576 := by omega
  have es2_0 : s2_0.data.toList.length = s2_0.size := by rw [Array.length_toList]; rfl
  have es2_1 : s2_1.data.toList.length = s2_1.size := by rw [Array.length_toList]; rfl
  have es2_2 : s2_2.data.toList.length = s2_2.size := by rw [Array.length_toList]; rfl
  have es2_3 : s2_3.data.toList.length = s2_3.size := by rw [Array.length_toList]; rfl
  have es2_4 : s2_4.data.toList.length = s2_4.size := by rw [Array.length_toList]; rfl
  have es2_5 : s2_5.data.toList.length = s2_5.size := by rw [Array.length_toList]; rfl
  have es2_6 : s2_6.data.toList.length = s2_6.size := by rw [Array.length_toList]; rfl
  have es2_7 : s2_7.data.toList.length = s2_7.size := by rw [Array.length_toList]; rfl
  have ws2 : ∀ k, k < 8 → (tx8 s2_0 s2_1 s2_2 s2_3 s2_4 s2_5 s2_6 s2_7 k).size ≤ 1048576 := by
    intro k hk
    obtain rfl | rfl | rfl | rfl | rfl | rfl | rfl | rfl : k = 0 ∨ k = 1 ∨ k = 2 ∨ k = 3 ∨ k = 4 ∨ k = 5 ∨ k = 6 ∨ k = 7 := by omega
    all_goals (simp only [tx8, List.getD_cons_zero, List.getD_cons_succ] at hbulk ⊢; omega)
  refine (qEV k0 k1 z2 s2_0 s2_1 s2_2 s2_3 s2_4 s2_5 s2_6 s2_7 W sm0 sm1 wz2 ws2).mono fun e W' ⟨he, bel⟩ => ?_
  subst he
  exact ⟨_, rfl, _, _, _, [], _, [], hW', trodAll_mk1 (shut_bool Try.underlying4 _), (trodAll_cons_mk (Below.trod qBQ (by kernel_rfl) (of_decide_eq_true (by kernel_rfl)) h0 bel lt0) (trodAll_cons_mk (Below.trod qBQ (by kernel_rfl) (of_decide_eq_true (by kernel_rfl)) h1 bel lt1) (trodAll_cons_mk (Below.trod qBQ (by kernel_rfl) (of_decide_eq_true (by kernel_rfl)) h2 bel lt2) trodAll_mk0))), rfl, bel.frame _, fun h => by cases h⟩

/-- The statement. -/
theorem proved : Rows.ClearNumberUptoSaid :=
  OpenClaim.holds_of_cond 5 Try.f5 rfl rfl rfl rfl rfl rfl rfl ⟨rfl, rfl, rfl, rfl, rfl⟩ rfl rfl rfl rfl rfl (by kernel_rfl) Try.func5 (by kernel_rfl)
    (of_decide_eq_true (by kernel_rfl)) (by unfold Func.isWrapper; first | (rw [if_pos (by decide +kernel)]; kernel_rfl) | (rw [if_neg (by decide +kernel)]; exact ⟨rfl, rfl⟩))
    (fun os started H enc _ F => lifted os started H enc F)
end Go.Proofs.Ytohfadegildnaaa.clearNumber

