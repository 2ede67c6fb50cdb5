/-
  PN: a half's number, plain.
-/
import Derived.Test.YtbjelkejifgnfaaGreatDoorPA
set_option maxRecDepth 100000
namespace Go.Proofs.YtbjelkejifgnfaaGreatDoor
open Go.RowKit
/-- The number with which a list begins. -/
def nmb2 (b : List El) : List El := match b with
  | [] => []
  | f :: c => if plE 43 f then f :: c.takeWhile bdy else (f :: c).takeWhile bdy
def nmb (l : List El) : List El := l.takeWhile bdy ++ (match l.dropWhile bdy with
  | [] => []
  | e :: b => if plE 69 e then e :: nmb2 b else [])
theorem nmb_bhd (l : List El) : nmb l ++ bhd l = l := by
  unfold nmb bhd
  conv => rhs; rw [← List.takeWhile_append_dropWhile (p := bdy) (l := l)]
  rw [List.append_assoc]
  congr 1
  cases l.dropWhile bdy with
  | nil => rfl
  | cons e b =>
    dsimp only
    cases plE 69 e
    · rfl
    · simp only [if_true]
      cases b with
      | nil => rfl
      | cons f c =>
        unfold nmb2
        dsimp only
        cases plE 43 f
        · simp only [Bool.false_eq_true, if_false]
          rw [List.cons_append, List.takeWhile_append_dropWhile]
        · simp only [if_true]
          rw [List.cons_append, List.cons_append, List.takeWhile_append_dropWhile]
theorem hnum_nmb (l : List El) : hnum l = nmb (hrst l) := by
  have h1 := hrst_num l
  have h2 := nmb_bhd (hrst l)
  rw [hsuf] at h1
  have h3 : hnum l ++ bhd (hrst l) = nmb (hrst l) ++ bhd (hrst l) := by rw [← h1, h2]
  exact List.append_cancel_right h3
theorem plE_iff {c : Int} {e : El} : plE c e = true ↔ e.2 = false ∧ e.1.2.1 = false ∧ e.1.1 = c := by
  simp [plE]
theorem bdy_iff {e : El} : bdy e = true ↔ e.2 = false ∧ e.1.2.1 = false ∧ bdC e.1.1 = true := by
  simp [bdy]
theorem tw_mem {α : Type} {p : α → Bool} {l : List α} {x : α} (h : x ∈ l.takeWhile p) : p x = true := by
  have := List.all_takeWhile (p := p) (l := l)
  exact List.all_eq_true.1 this x h
theorem bdC_lt {r : Int} (h : bdC r = true) : 0 ≤ r ∧ r < 128 := by
  rw [bdC, decide_eq_true_iff] at h; omega
/-- A number's characters are plain, and below 128. -/
theorem nmb_low (l : List El) : ∀ e ∈ nmb l, e.2 = false ∧ e.1.2.1 = false ∧ 0 ≤ e.1.1 ∧ e.1.1 < 128 := by
  have hb : ∀ (m : List El) (e : El), e ∈ m.takeWhile bdy → e.2 = false ∧ e.1.2.1 = false ∧ 0 ≤ e.1.1 ∧ e.1.1 < 128 := by
    intro m e he
    obtain ⟨h1, h2, h3⟩ := bdy_iff.1 (tw_mem he)
    exact ⟨h1, h2, (bdC_lt h3).1, (bdC_lt h3).2⟩
  have hp : ∀ (c : Int) (e : El), plE c e = true → 0 ≤ c → c < 128 → e.2 = false ∧ e.1.2.1 = false ∧ 0 ≤ e.1.1 ∧ e.1.1 < 128 := by
    intro c e h h0 h1
    obtain ⟨a, b, rfl⟩ := plE_iff.1 h
    exact ⟨a, b, h0, h1⟩
  intro e he
  unfold nmb at he
  rcases List.mem_append.1 he with he | he
  · exact hb _ _ he
  · split at he
    · simp at he
    · rename_i d b _
      split at he
      · rename_i h69
        rcases List.mem_cons.1 he with rfl | he
        · exact hp _ _ h69 (by omega) (by omega)
        · unfold nmb2 at he
          split at he
          · simp at he
          · split at he
            · rename_i h43
              rcases List.mem_cons.1 he with rfl | he
              · exact hp _ _ h43 (by omega) (by omega)
              · exact hb _ _ he
            · exact hb _ _ he
      · simp at he
theorem hnum_low (l : List El) : ∀ e ∈ hnum l, e.2 = false ∧ e.1.2.1 = false ∧ 0 ≤ e.1.1 ∧ e.1.1 < 128 := by
  rw [hnum_nmb]; exact nmb_low _
theorem chE_lt (l : List El) : ∀ c ∈ chE (hnum l), c < 256 := by
  intro c hc
  obtain ⟨e, he, rfl⟩ := List.mem_map.1 hc
  have := hnum_low l e he
  omega
end Go.Proofs.YtbjelkejifgnfaaGreatDoor
