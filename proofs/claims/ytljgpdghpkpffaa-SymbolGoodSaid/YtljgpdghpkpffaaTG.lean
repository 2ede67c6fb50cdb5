/-
  TG: the document's Scan.
-/
import Derived.Test.YtljgpdghpkpffaaMB
import Derived.Test.YtljgpdghpkpffaaUE
set_option maxRecDepth 100000
namespace Go.Proofs.Ytljgpdghpkpffaa
open Go.RowKit
theorem encs_first {d : Nat} {cs : List Nat} : ∃ b l, encs (d :: cs) = b :: l ∧ (b = 39 ↔ d = 39) := by
  rw [encs_cons]
  rcases encN_cases d with ⟨_, e⟩ | ⟨_, _, e⟩ | ⟨_, _, e⟩ | ⟨_, e⟩ <;> rw [e]
  · exact ⟨d, encs cs, rfl, Iff.rfl⟩
  all_goals exact ⟨_, _, rfl, by omega⟩
theorem Rem.byte {s : ByteArray} {p : Nat} {d : Nat} {cs : List Nat} (h : Rem s p (d :: cs)) : ∃ hp : p < s.size, (s[p].toNat = 39 ↔ d = 39) := by
  refine ⟨h.some.2.2.2.1, ?_⟩
  obtain ⟨b, l, e, hb⟩ := encs_first (d := d) (cs := cs)
  rw [← hb]
  have h1 := h.2.1
  rw [e] at h1
  have h2 := bts_get s p h.some.2.2.2.1
  have h3 : (bts s).getD p 0 = b := by
    have : ((bts s).drop p)[0]? = Option.some b := by rw [h1]; rfl
    rw [List.getElem?_drop, Nat.add_zero] at this
    rw [List.getD, this, Option.getD_some]
  rw [← h2, h3]
end Go.Proofs.Ytljgpdghpkpffaa
