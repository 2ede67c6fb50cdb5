/-
  SymbolJoinsUptoSaid is proved: whatever the arguments, as far as together they hold no more values and letters than the given row says, the Go function SymbolJoins returns true, and each argument reads afterwards as it read before.
  Conditions: none beside those that the given row prints.
-/
import Derived.Test.YtljgpdghpkpffaaSymbolJoinsWalk
import Derived.Test.YtljgpdghpkpffaaKB
import Derived.Test.YtljgpdghpkpffaaUF
import Derived.Deep.CondSized
import Derived.Test.YtljgpdghpkpffaaYJ
namespace Go.Proofs.Ytljgpdghpkpffaa.symbolJoins
open Go.ChangeShapes Go.WideShapes Go.ChangeAt Go.RowKit
open Go.ChangeMaps (open_string)
set_option linter.unusedVariables false

set_option maxRecDepth 100000 in
theorem lifted (os : Os) (started : os.Started) (H : Type) (enc : TypeId × Value → H) (F : Stop.Interp) :
    ReturnsInHanded {} Try.checked os 5 .any ((Rows.OpenSpec.upto Rows.symbolJoinsSpec).pre6 enc Try.prog Try.f5 Rows.symbolJoinsUptoRow.domain false) (((Rows.OpenSpec.upto Rows.symbolJoinsSpec).at F).post enc Try.prog Try.f5 false true false false) := by
  refine returnsInHanded_of_cond_sized (C := Try.checked) (s := Rows.OpenSpec.upto Rows.symbolJoinsSpec) (k := Rows.uptoSmall) rfl frameOwn started (by kernel_rfl) Try.func5
    (OpenSpec.witness (enc := enc) (C := Try.checked) (s := Rows.OpenSpec.upto Rows.symbolJoinsSpec) (k := Rows.uptoSmall) rfl false ⟨#[], #[.agg #[.int .i32 0, .string ⟨#[]⟩, .string ⟨#[]⟩, .string ⟨#[]⟩, .string ⟨#[]⟩, .string ⟨#[]⟩, .string ⟨#[]⟩, .string ⟨#[]⟩, .string ⟨#[]⟩], .slice none 0 0, .slice none 0 0], []⟩ 8 (by kernel_rfl) (by kernel_rfl) (by kernel_rfl)
      (x := ([.agg [.lit (.int .i32 0), .lit (.string []), .lit (.string []), .lit (.string []), .lit (.string []), .lit (.string []), .lit (.string []), .lit (.string []), .lit (.string [])], .nil, .nil], [], [])) (by kernel_rfl) rfl (by kernel_rfl)) ?_
  intro W base args ds gs before hval0 hW _ hk hsz0 _
  have hsz : (DataW.weightsEach Try.prog (Try.f5.params.toList ++ Rows.symbolJoinsSpec.plain.varTypes Try.prog) (ds ++ gs)).all (· ≤ reachBytes) = true := hsz0
  have hval : ∀ (j : Nat) t v, Try.f5.params[j]? = some t → args[j]? = some v → Value.okWide Try.prog W .any base t v := hval0
  have hW' := hW
  obtain ⟨p, q, hA0, hV, rfl, hfz, hnd⟩ := hW
  have hA : DataW.TrodAll enc Try.prog W 0 (fun _ => true) true Try.f5.params.toList args.toList ds p := hA0
  rw [Try.params5] at hA hval hsz
  obtain ⟨v0, vs0, d0, ds0, p0, q0, hargs, rfl, rfl, h0, r0⟩ := trodAll_cons hA
  obtain ⟨v1, vs1, d1, ds1, p1, q1, rfl, rfl, rfl, h1, r1⟩ := trodAll_cons r0
  obtain ⟨v2, vs2, d2, ds2, p2, q2, rfl, rfl, rfl, h2, r2⟩ := trodAll_cons r1
  obtain ⟨rfl, rfl, rfl⟩ := trodAll_nil r2
  obtain rfl : args = #[v0, v1, v2] := by cases args; simp_all
  obtain ⟨rfl, rfl⟩ := trodVars_none hV
  have lt0 : ∀ x ∈ p0, x.block < W.heap.size := by obtain ⟨m, hm⟩ := h0; exact DataW.trod_lt m _ _ _ hm
  obtain ⟨z0, s0_0, s0_1, s0_2, s0_3, s0_4, s0_5, s0_6, s0_7, rfl, wz0, l0, dd0⟩ := open_sym (hval 0 23 v0 rfl rfl) h0
  obtain ⟨a1, len1, cap1, rfl⟩ := okWide_slice Try.underlying27 (hval 1 27 v1 rfl rfl)
  have lt1 : ∀ x ∈ p1, x.block < W.heap.size := by obtain ⟨m, hm⟩ := h1; exact DataW.trod_lt m _ _ _ hm
  obtain ⟨z1, w1⟩ := its_open (j := 1) h1 hsz rfl rfl
  have wn1 := its_nilc h1
  obtain ⟨a2, len2, cap2, rfl⟩ := okWide_slice Try.underlying27 (hval 2 27 v2 rfl rfl)
  have lt2 : ∀ x ∈ p2, x.block < W.heap.size := by obtain ⟨m, hm⟩ := h2; exact DataW.trod_lt m _ _ _ hm
  obtain ⟨z2, w2⟩ := its_open (j := 2) h2 hsz rfl rfl
  have wn2 := its_nilc h2
  clear hA0 hval0
  subst dd0
  have hbulk := of_decide_eq_true hk
  simp only [List.append_nil, Rows.uptoBulkAll, Rows.uptoBulk] at hbulk
  have es0_0 : s0_0.data.toList.length = s0_0.size := by rw [Array.length_toList]; rfl
  have es0_1 : s0_1.data.toList.length = s0_1.size := by rw [Array.length_toList]; rfl
  have es0_2 : s0_2.data.toList.length = s0_2.size := by rw [Array.length_toList]; rfl
  have es0_3 : s0_3.data.toList.length = s0_3.size := by rw [Array.length_toList]; rfl
  have es0_4 : s0_4.data.toList.length = s0_4.size := by rw [Array.length_toList]; rfl
  have es0_5 : s0_5.data.toList.length = s0_5.size := by rw [Array.length_toList]; rfl
  have es0_6 : s0_6.data.toList.length = s0_6.size := by rw [Array.length_toList]; rfl
  have es0_7 : s0_7.data.toList.length = s0_7.size := by rw [Array.length_toList]; rfl
  have ws0 : ∀ k, k < 8 → (tx8 s0_0 s0_1 s0_2 s0_3 s0_4 s0_5 s0_6 s0_7 k).size ≤ 1048576 := by
    intro k hk
    obtain rfl | rfl | rfl | rfl | rfl | rfl | rfl | rfl : k = 0 ∨ k = 1 ∨ k = 2 ∨ k = 3 ∨ k = 4 ∨ k = 5 ∨ k = 6 ∨ k = 7 := by omega
    all_goals (simp only [tx8, List.getD_cons_zero, List.getD_cons_succ, Rows.uptoBulkAll, Rows.uptoBulk] at hbulk ⊢; omega)
  refine (walk_symbolJoins z0 s0_0 s0_1 s0_2 s0_3 s0_4 s0_5 s0_6 s0_7 a1 len1 cap1 z1 a2 len2 cap2 z2 W wz0 ws0 w1 w2 wn1 wn2).mono fun e W' ⟨he, bel⟩ => ?_
  subst he
  exact ⟨_, rfl, _, _, _, [], _, [], hW', trodAll_mk1 (shut_bool Try.underlying4 _), (trodAll_cons_mk (Below.trod frameLaid (by kernel_rfl) (of_decide_eq_true (by kernel_rfl)) h0 bel lt0) (trodAll_cons_mk (Below.trod frameLaid (by kernel_rfl) (of_decide_eq_true (by kernel_rfl)) h1 bel lt1) (trodAll_cons_mk (Below.trod frameLaid (by kernel_rfl) (of_decide_eq_true (by kernel_rfl)) h2 bel lt2) trodAll_mk0))), rfl, bel.frame _, fun h => by cases h⟩

/-- The statement. -/
theorem proved : Rows.SymbolJoinsUptoSaid :=
  OpenClaim.holds_of_cond 5 Try.f5 rfl rfl rfl rfl rfl rfl rfl ⟨rfl, rfl, rfl, rfl, rfl⟩ rfl rfl rfl rfl rfl (by kernel_rfl) Try.func5 (by kernel_rfl)
    (of_decide_eq_true (by kernel_rfl)) (by unfold Func.isWrapper; first | (rw [if_pos (by decide +kernel)]; kernel_rfl) | (rw [if_neg (by decide +kernel)]; exact ⟨rfl, rfl⟩))
    (fun os started H enc _ F => lifted os started H enc F)
end Go.Proofs.Ytljgpdghpkpffaa.symbolJoins
