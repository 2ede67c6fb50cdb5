/-
  YI: a struct that came in, opened.
-/
import Derived.Lib.SmallJoins
import Derived.SizedLaws
import Derived.ProofKit
import Derived.Test.YtljgpdghpkpffaaRows
set_option maxRecDepth 100000
namespace Go.Proofs.Ytljgpdghpkpffaa
open Go.RowKit Go.ChangeShapes Go.WideShapes Go.ChangeAt Go.Deep
theorem open_flat {H : Type} {enc : TypeId × Value → H} {P : Program} {w : World} {b0 base : Nat} {spare : Nat → Bool} {held : Bool} {r : Reach} {t : TypeId} {fs : Array Field} {v : Value} {d : DataW H} {p : List MemPlace} (hs : P.underlying t = some (.struct fs)) (hone : oneCellFields P fs = true)
    (hv : Value.okWide P w r b0 t v) (h : DataW.Trod enc P w base spare held t v d p) :
    ∃ (cs : Array Value) (xs : List (DataW H × List MemPlace)) (n : Nat), v = .agg cs ∧ cs.size = P.cellsOf t ∧ d = .agg (xs.map (·.1)) ∧ xs.length = fs.size ∧
      ∀ (i : Nat) (f : Field) (c : Value), fs[i]? = some f → cs[i]? = some c → ∃ y, xs[i]? = some y ∧ DataW.trod enc P w base spare held n f.type [c] = some y := by
  obtain ⟨cs, rfl, hsz⟩ := okWide_struct hs hv
  obtain ⟨fuel, hf⟩ := h
  obtain ⟨xs, n, -, hx, _, hlen, hk⟩ := DataW.trod_struct hs hf
  simp only [Prod.mk.injEq] at hx
  refine ⟨cs, xs, n, rfl, hsz, hx.1, hlen, fun i f c hi hc => ?_⟩
  obtain ⟨ho, hc1⟩ := hone_of hone i f hi
  have hlt : i < xs.length := by rw [hlen]; exact (Array.getElem?_eq_some_iff.1 hi).1
  have e := hk i f hi
  obtain ⟨hci, hce⟩ := Array.getElem?_eq_some_iff.1 hc
  have e2 : ((Value.cells (.agg cs)).toList.drop f.offset).take (P.cellsOf f.type) = [c] := by
    rw [ho, hc1]
    show (cs.toList.drop i).take 1 = [c]
    have hl : i < cs.toList.length := by simpa using hci
    have hv2 : cs.toList[i] = c := by simpa using hce
    rw [List.drop_eq_getElem_cons hl, hv2]
    rfl
  rw [e2] at e
  exact ⟨xs[i], List.getElem?_eq_getElem hlt, by rw [e, List.getElem?_eq_getElem hlt]⟩
end Go.Proofs.Ytljgpdghpkpffaa
