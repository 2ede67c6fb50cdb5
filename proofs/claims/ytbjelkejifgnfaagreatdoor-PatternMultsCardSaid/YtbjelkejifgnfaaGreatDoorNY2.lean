/-
  NY2: a pattern that came in, opened.
-/
import Derived.Lib.SmallJoins
import Derived.SizedLaws
import Derived.ProofKit
import Derived.Test.YtbjelkejifgnfaaGreatDoorNZ
set_option maxRecDepth 100000
namespace Go.Proofs.YtbjelkejifgnfaaGreatDoor
open Go.RowKit Go.ChangeShapes Go.WideShapes Go.ChangeAt Go.Deep
theorem array20 {α : Type} {cs : Array α} (h : cs.size = 20) : ∃ x0 x1 x2 x3 x4 c5 c6 c7 c8 c9 c10 c11 c12 c13 c14 c15 c16 y0 y1 y2, cs = #[x0, x1, x2, x3, x4, c5, c6, c7, c8, c9, c10, c11, c12, c13, c14, c15, c16, y0, y1, y2] := by
  obtain ⟨l⟩ := cs
  match l, h with
  | [x0, x1, x2, x3, x4, c5, c6, c7, c8, c9, c10, c11, c12, c13, c14, c15, c16, y0, y1, y2], _ => exact ⟨x0, x1, x2, x3, x4, c5, c6, c7, c8, c9, c10, c11, c12, c13, c14, c15, c16, y0, y1, y2, rfl⟩
theorem open_flat {H : Type} {enc : TypeId × Value → H} {P : Program} {w : World} {b0 base : Nat} {spare : Nat → Bool} {held : Bool} {r : Reach} {t : TypeId} {fs : Array Field} {v : Value} {d : DataW H} {p : List MemPlace} (hs : P.underlying t = some (.struct fs)) (hone : oneCellFields P fs = true)
    (hv : Value.okWide P w r b0 t v) (h : DataW.Trod enc P w base spare held t v d p) :
    ∃ (cs : Array Value) (xs : List (DataW H × List MemPlace)) (n : Nat), v = .agg cs ∧ cs.size = P.cellsOf t ∧ d = .agg (xs.map (·.1)) ∧ xs.length = fs.size ∧
      ∀ (i : Nat) (f : Field) (c : Value), fs[i]? = some f → cs[i]? = some c → ∃ y, xs[i]? = some y ∧ DataW.trod enc P w base spare held n f.type [c] = some y := by
  obtain ⟨cs, rfl, hsz⟩ := okWide_struct hs hv
  obtain ⟨fuel, hf⟩ := h
  obtain ⟨xs, n, -, hx, _, hlen, hk⟩ := DataW.trod_struct hs hf
  simp only [Prod.mk.injEq] at hx
  refine ⟨cs, xs, n, rfl, hsz, hx.1, hlen, fun i f c hi hc => ?_⟩
  obtain ⟨ho, hc1⟩ := hone_of hone i f hi
  have hlt : i < xs.length := by rw [hlen]; exact (Array.getElem?_eq_some_iff.1 hi).1
  have e := hk i f hi
  obtain ⟨hci, hce⟩ := Array.getElem?_eq_some_iff.1 hc
  have e2 : ((Value.cells (.agg cs)).toList.drop f.offset).take (P.cellsOf f.type) = [c] := by
    rw [ho, hc1]
    show (cs.toList.drop i).take 1 = [c]
    have hl : i < cs.toList.length := by simpa using hci
    have hv2 : cs.toList[i] = c := by simpa using hce
    rw [List.drop_eq_getElem_cons hl, hv2]
    rfl
  rw [e2] at e
  exact ⟨xs[i], List.getElem?_eq_getElem hlt, by rw [e, List.getElem?_eq_getElem hlt]⟩
set_option maxHeartbeats 1000000 in
theorem open_pat {H : Type} {enc : TypeId × Value → H} {w : World} {b0 base : Nat} {spare : Nat → Bool} {held : Bool} {r : Reach} {v : Value} {d : DataW H} {p : List MemPlace}
    (hv : Value.okWide Tryz.prog w r b0 25 v) (h : DataW.Trod enc Tryz.prog w base spare held 25 v d p) :
    ∃ (x0 x1 x2 x3 x4 y0 y1 y2 : Value) (a5 a6 a7 a8 a9 a10 a11 a12 a15 : Int) (a13 : ByteArray) (a14 a16 : Bool), v = .agg (fV x0 x1 x2 x3 x4 y0 y1 y2 a5 a6 a7 a8 a9 a10 a11 a12 a15 a13 a14 a16) ∧ a13.data.toList.length ∈ d.weights Tryz.prog 25 := by
  obtain ⟨cs, xs, n, rfl, hsz, rfl, hlen, hk⟩ := open_flat Tryz.underlying25 (by kernel_rfl) hv h
  obtain ⟨x0, x1, x2, x3, x4, c5, c6, c7, c8, c9, c10, c11, c12, c13, c14, c15, c16, y0, y1, y2, rfl⟩ := array20 (hsz.trans (by kernel_rfl))
  obtain ⟨z5, i5, k5⟩ := hk 5 _ c5 rfl rfl
  obtain ⟨a5, e5, -, -⟩ := DataW.trod_int (k := .i64) Tryz.underlying3 k5
  obtain rfl : c5 = .int .i64 a5 := by simpa using e5
  obtain ⟨z6, i6, k6⟩ := hk 6 _ c6 rfl rfl
  obtain ⟨a6, e6, -, -⟩ := DataW.trod_int (k := .i64) Tryz.underlying3 k6
  obtain rfl : c6 = .int .i64 a6 := by simpa using e6
  obtain ⟨z7, i7, k7⟩ := hk 7 _ c7 rfl rfl
  obtain ⟨a7, e7, -, -⟩ := DataW.trod_int (k := .i64) Tryz.underlying3 k7
  obtain rfl : c7 = .int .i64 a7 := by simpa using e7
  obtain ⟨z8, i8, k8⟩ := hk 8 _ c8 rfl rfl
  obtain ⟨a8, e8, -, -⟩ := DataW.trod_int (k := .i64) Tryz.underlying3 k8
  obtain rfl : c8 = .int .i64 a8 := by simpa using e8
  obtain ⟨z9, i9, k9⟩ := hk 9 _ c9 rfl rfl
  obtain ⟨a9, e9, -, -⟩ := DataW.trod_int (k := .i64) Tryz.underlying3 k9
  obtain rfl : c9 = .int .i64 a9 := by simpa using e9
  obtain ⟨z10, i10, k10⟩ := hk 10 _ c10 rfl rfl
  obtain ⟨a10, e10, -, -⟩ := DataW.trod_int (k := .i64) Tryz.underlying3 k10
  obtain rfl : c10 = .int .i64 a10 := by simpa using e10
  obtain ⟨z11, i11, k11⟩ := hk 11 _ c11 rfl rfl
  obtain ⟨a11, e11, -, -⟩ := DataW.trod_int (k := .i64) Tryz.underlying3 k11
  obtain rfl : c11 = .int .i64 a11 := by simpa using e11
  obtain ⟨z12, i12, k12⟩ := hk 12 _ c12 rfl rfl
  obtain ⟨a12, e12, -, -⟩ := DataW.trod_int (k := .i64) Tryz.underlying3 k12
  obtain rfl : c12 = .int .i64 a12 := by simpa using e12
  obtain ⟨z15, i15, k15⟩ := hk 15 _ c15 rfl rfl
  obtain ⟨a15, e15, -, -⟩ := DataW.trod_int (k := .i64) Tryz.underlying3 k15
  obtain rfl : c15 = .int .i64 a15 := by simpa using e15
  obtain ⟨z13, i13, k13⟩ := hk 13 _ c13 rfl rfl
  obtain ⟨a13, e13, f13, -⟩ := DataW.trod_string Tryz.underlying9 k13
  obtain rfl : c13 = .string a13 := by simpa using e13
  obtain ⟨z14, i14, k14⟩ := hk 14 _ c14 rfl rfl
  obtain ⟨a14, e14, -⟩ := DataW.trod_bool Tryz.underlying4 k14
  obtain rfl : c14 = .bool a14 := by simpa using e14
  obtain ⟨z16, i16, k16⟩ := hk 16 _ c16 rfl rfl
  obtain ⟨a16, e16, -⟩ := DataW.trod_bool Tryz.underlying4 k16
  obtain rfl : c16 = .bool a16 := by simpa using e16
  refine ⟨x0, x1, x2, x3, x4, y0, y1, y2, a5, a6, a7, a8, a9, a10, a11, a12, a15, a13, a14, a16, rfl, ?_⟩
  unfold DataW.weights
  simp only [Tryz.underlying25]
  refine DataW.weights_mem_each (j := 13) (t := 9) rfl (d := .lit (.string a13.data.toList)) (by rw [List.getElem?_map, i13, f13]; rfl) _ ?_
  unfold DataW.weights
  exact List.mem_singleton.2 rfl
end Go.Proofs.YtbjelkejifgnfaaGreatDoor
