/-
  NH: the document's PrintNumber.
-/
import Derived.Deep.DeepCutAuto
import Derived.Test.YtbjelkejifgnfaaGreatDoorMC
import Derived.Test.YtbjelkejifgnfaaGreatDoorMB
set_option maxRecDepth 100000
namespace Go.Proofs.YtbjelkejifgnfaaGreatDoor
open Go.RowKit
/-- A pattern's cells: its number part's fields p among others. -/
def patV (x0 x1 x2 x3 x4 : Value) (p : NF) (y0 y1 y2 : Value) : Array Value :=
  #[x0, x1, x2, x3, x4, .int .i64 (p.minInt : Int), .int .i64 (p.maxInt : Int), .int .i64 (p.minFrac : Int), .int .i64 (p.maxFrac : Int), .int .i64 (p.minSig : Int), .int .i64 (p.maxSig : Int),
    .int .i64 (p.prim : Int), .int .i64 (p.sec : Int), .string (stz p.inc), .bool p.sci, .int .i64 (p.minExp : Int), .bool p.plus, y0, y1, y2]
/-- All counts are small. -/
theorem OkN.small {p : NF} (h : OkN p) : p.minInt ≤ 40 ∧ p.maxInt ≤ 40 ∧ p.minFrac ≤ p.maxFrac ∧ p.maxFrac ≤ 40 ∧ p.minSig ≤ p.maxSig ∧ p.maxSig ≤ 40 ∧ p.prim ≤ 40 ∧ p.sec ≤ 40 ∧ p.inc.length ≤ p.minInt + p.minFrac ∧ p.minExp ≤ 9 := by
  have hb := h.big
  simp only [bigN, Bool.or_eq_false_iff, decide_eq_false_iff_not] at hb
  obtain ⟨⟨⟨⟨⟨⟨h1, h2⟩, h3⟩, h4⟩, h5⟩, h6⟩, h7⟩ := hb
  have hi := h.incs.1
  have he : p.minExp ≤ 9 := by rcases h.exp with ⟨_, _, e⟩ | ⟨_, e, _⟩ <;> omega
  rcases h.kind with ⟨⟨k1, k2⟩, k3, k4, k5, k6, _⟩ | ⟨⟨k1, k2⟩, k3, _⟩ <;> omega
theorem least_le {p : NF} (h2 : p.maxInt ≤ 40) (h7 : p.prim ≤ 40) (h8 : p.sec ≤ 40) : leastN p ≤ 81 := by
  unfold leastN
  repeat' split
  all_goals omega
/-- What is left to be written of a whole part, from its i-th character on. -/
def cmR (P S : Nat) (L : List Nat) (i : Nat) : List Nat := if i = 0 then cmW P S L else cmZ P S (L.drop i)
theorem cmR_step {P S : Nat} {L : List Nat} {i : Nat} (h : i < L.length) :
    cmR P S L i = (if 0 < i ∧ 0 < P ∧ (L.length - i = P ∨ (S ≠ P ∧ L.length - i = P + S)) then [44] else []) ++ L.getD i 0 :: cmR P S L (i + 1) := by
  have hg : L.getD i 0 = L[i] := by rw [List.getD, List.getElem?_eq_getElem h]; rfl
  rw [hg]
  rcases Nat.eq_zero_or_pos i with h0 | h0
  · subst h0
    rw [if_neg (fun e => absurd e.1 (Nat.lt_irrefl 0)), List.nil_append]
    cases L with
    | nil => simp at h
    | cons c t => rfl
  · have e1 : cmR P S L i = cmZ P S (L.drop i) := if_neg (by omega)
    have e2 : cmR P S L (i + 1) = cmZ P S (L.drop (i + 1)) := if_neg (by omega)
    have e3 : (L.drop (i + 1)).length + 1 = L.length - i := by rw [List.length_drop]; omega
    rw [e1, e2, List.drop_eq_getElem_cons h, cmZ, e3]
    by_cases hc : 0 < P ∧ (L.length - i = P ∨ (S ≠ P ∧ L.length - i = P + S))
    · rw [if_pos hc, if_pos (show 0 < i ∧ _ from ⟨h0, hc⟩)]
    · rw [if_neg hc, if_neg (show ¬ (0 < i ∧ _) from fun e => hc e.2)]
theorem cmR_end (P S : Nat) (L : List Nat) : cmR P S L L.length = [] := by
  unfold cmR; split
  · rename_i h
    rw [List.eq_nil_of_length_eq_zero h]; rfl
  · rw [List.drop_of_length_le (Nat.le_refl _)]; rfl
theorem ext_one {s : ByteArray} {i : Nat} (h : i < s.size) : s.extract i (i + 1) = stz [s[i].toNat] := by
  refine eq_stz ?_
  rw [bts_extract, bts_take_succ h, List.drop_append_of_le_length (by rw [List.length_take, bts_length]; omega), List.drop_eq_nil_of_le (by rw [List.length_take, bts_length]; omega), List.nil_append]
/-- Behind a cut: what slot holds, draws alone. -/
def SlMid (W : World) (v : Value) (u : Value) (W' : World) : Prop := u = v ∧ ∃ m, W' = W.drewN m
end Go.Proofs.YtbjelkejifgnfaaGreatDoor
