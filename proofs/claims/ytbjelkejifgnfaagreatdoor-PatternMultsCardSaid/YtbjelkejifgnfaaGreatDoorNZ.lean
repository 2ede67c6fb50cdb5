/-
  NZ: number.Fields, walked; its law.
-/
import Derived.Test.YtbjelkejifgnfaaGreatDoorMF
set_option maxRecDepth 100000
namespace Go.Proofs.YtbjelkejifgnfaaGreatDoor
open Go.RowKit
def fV (x0 x1 x2 x3 x4 y0 y1 y2 : Value) (a5 a6 a7 a8 a9 a10 a11 a12 a15 : Int) (a13 : ByteArray) (a14 a16 : Bool) : Array Value := #[x0, x1, x2, x3, x4, .int .i64 a5, .int .i64 a6, .int .i64 a7, .int .i64 a8, .int .i64 a9, .int .i64 a10, .int .i64 a11, .int .i64 a12, .string a13, .bool a14, .int .i64 a15, .bool a16, y0, y1, y2]
def fU (a5 a6 a7 a8 a9 a10 a11 a12 a15 : Int) (a13 : ByteArray) (a14 a16 : Bool) : Array Value := #[.slice none 0 0, .slice none 0 0, .bool false, .slice none 0 0, .slice none 0 0, .int .i64 a5, .int .i64 a6, .int .i64 a7, .int .i64 a8, .int .i64 a9, .int .i64 a10, .int .i64 a11, .int .i64 a12, .string a13, .bool a14, .int .i64 a15, .bool a16, .int .i64 0, .int .i32 0, .int .i64 0]
theorem psize20 : (Tryz.prog.info? 25).map (·.size) = some 20 := by kernel_rfl
theorem strClone_w (s : ByteArray) (w : World) (hs : s.size ≤ 281474976710656) : Calls Tryz.prog 141 #[.string s] w fun e w' => e = .returned (.string s) ∧ Below w.heap.size w w' := Tryz.stringslite_Clone s w hs
theorem strClone2_w (s : ByteArray) (w : World) (hs : s.size ≤ 281474976710656) : Calls Tryz.prog 120 #[.string s] w fun e w' => e = .returned (.string s) ∧ Below w.heap.size w w' := by
  have H3 := Lib.hid (fun W => strClone_w s W hs)
  go_enter Tryz.func120, Tryz.ntmps120
  go_wp2_with (first
    | (go_at_call 141; refine (H3.out _).mono ?_; rintro e w1 ⟨rfl, hb⟩)
    | fail)
  go_ret
  exact ⟨rfl, hb⟩
section
variable {x0 x1 x2 x3 x4 y0 y1 y2 : Value} {a5 a6 a7 a8 a9 a10 a11 a12 a15 : Int} {a13 : ByteArray} {a14 a16 : Bool} {w W : World} {g : Nat}
theorem psizeU : (Tryz.prog.info? 25).map (·.size) = some (fU a5 a6 a7 a8 a9 a10 a11 a12 a15 a13 a14 a16).size := psize20
theorem psizeV : (Tryz.prog.info? 25).map (·.size) = some (fV x0 x1 x2 x3 x4 y0 y1 y2 a5 a6 a7 a8 a9 a10 a11 a12 a15 a13 a14 a16).size := psize20
theorem pcellsU : (fU a5 a6 a7 a8 a9 a10 a11 a12 a15 a13 a14 a16).all (·.oneCell') = true := by simp [fU, Value.oneCell']
theorem FS {us : Array Value} (x : GX2 w W g (fV x0 x1 x2 x3 x4 y0 y1 y2 a5 a6 a7 a8 a9 a10 a11 a12 a15 a13 a14 a16) us) (hu : us.size = 20) : Hid (∃ us, us.size = 20 ∧ GX2 w W g (fV x0 x1 x2 x3 x4 y0 y1 y2 a5 a6 a7 a8 a9 a10 a11 a12 a15 a13 a14 a16) us) ∧ W.cell? ⟨g, 5, none⟩ = some (.int .i64 a5) ∧ W.cell? ⟨g, 6, none⟩ = some (.int .i64 a6) ∧ W.cell? ⟨g, 7, none⟩ = some (.int .i64 a7) ∧ W.cell? ⟨g, 8, none⟩ = some (.int .i64 a8) ∧ W.cell? ⟨g, 9, none⟩ = some (.int .i64 a9) ∧ W.cell? ⟨g, 10, none⟩ = some (.int .i64 a10) ∧ W.cell? ⟨g, 11, none⟩ = some (.int .i64 a11) ∧ W.cell? ⟨g, 12, none⟩ = some (.int .i64 a12) ∧ W.cell? ⟨g, 13, none⟩ = some (.string a13) ∧ W.cell? ⟨g, 14, none⟩ = some (.bool a14) ∧ W.cell? ⟨g, 15, none⟩ = some (.int .i64 a15) ∧ W.cell? ⟨g, 16, none⟩ = some (.bool a16) :=
  ⟨Lib.hid ⟨us, hu, x⟩, x.bx.c 5, x.bx.c 6, x.bx.c 7, x.bx.c 8, x.bx.c 9, x.bx.c 10, x.bx.c 11, x.bx.c 12, x.bx.c 13, x.bx.c 14, x.bx.c 15, x.bx.c 16⟩
theorem FS_below {W' : World} (x : ∃ us : Array Value, us.size = 20 ∧ GX2 w W g (fV x0 x1 x2 x3 x4 y0 y1 y2 a5 a6 a7 a8 a9 a10 a11 a12 a15 a13 a14 a16) us) (hb : Below W.heap.size W W') : (fun W : World => Hid (∃ us, us.size = 20 ∧ GX2 w W g (fV x0 x1 x2 x3 x4 y0 y1 y2 a5 a6 a7 a8 a9 a10 a11 a12 a15 a13 a14 a16) us) ∧ W.cell? ⟨g, 5, none⟩ = some (.int .i64 a5) ∧ W.cell? ⟨g, 6, none⟩ = some (.int .i64 a6) ∧ W.cell? ⟨g, 7, none⟩ = some (.int .i64 a7) ∧ W.cell? ⟨g, 8, none⟩ = some (.int .i64 a8) ∧ W.cell? ⟨g, 9, none⟩ = some (.int .i64 a9) ∧ W.cell? ⟨g, 10, none⟩ = some (.int .i64 a10) ∧ W.cell? ⟨g, 11, none⟩ = some (.int .i64 a11) ∧ W.cell? ⟨g, 12, none⟩ = some (.int .i64 a12) ∧ W.cell? ⟨g, 13, none⟩ = some (.string a13) ∧ W.cell? ⟨g, 14, none⟩ = some (.bool a14) ∧ W.cell? ⟨g, 15, none⟩ = some (.int .i64 a15) ∧ W.cell? ⟨g, 16, none⟩ = some (.bool a16)) W' := by
  obtain ⟨us, hu, x⟩ := x
  exact FS (x.below hb) hu
theorem GX2.setRow {vs us : Array Value} (x : GX2 w W g vs us) (hg : w.heap.size = g) (cs : Array Value) : GX2 w (W.setRow (g + 1) cs) g vs cs :=
  ⟨x.b.setRow (by omega) _, (setRow_other _ _ _ _ (by omega)).trans x.bx, setRow_heap _ _ us _ _ _ x.by_⟩
end
/-- As wpList_load_row_w: each premise is one cheap look-up. -/
theorem wpList_load_row_g {P : Program} {ops : Array Oper} {rest : List Oper} {o : Oper} {a : Act} {w : World} {Q : Exit → Act → World → Prop} (ty : TypeId) (x : Operand) (ho : o.op = .load ty x)
    (g : Nat) (hx : a.eval x = .pointer (some ⟨g, 0, none⟩)) (t : TypeId) (cs : Array Value) (fr : Nat × Nat) (d : TypeDesc) (hg : w.heap[g]? = some (.cells cs t fr))
    (hu : P.underlying ty = some d) (hd : (match d with | .struct _ | .array _ _ => true | _ => false) = true) (hi : (P.info? ty).map (·.size) = some cs.size)
    {j : Nat} {want : Bool} (hgd : o.guard = some (j, want)) {oj : Oper} {rj : List Oper} (hj : ops.toList.drop j = oj :: rj) {k : Nat} (hk : oj.dst = some k) {rv : List Value} (hv : a.tmps.toList.drop k = .bool want :: rv)
    (h : wpList P ops Q rest (a.put o.dst (.agg cs)) w) : wpList P ops Q (o :: rest) a w := by
  have e1 : ops[j]? = some oj := drop_at hj
  have e2 : a.tmps[k]? = some (.bool want) := by rw [← Array.getElem?_toList, ← Nat.add_zero k, ← List.getElem?_drop, hv]; rfl
  refine wpList_load_row_w ?_ ty x ho g hx t cs fr d hg hu hd hi h
  unfold Region.wanted
  rw [hgd]
  simp [yielded, e1, hk, e2]
end Go.Proofs.YtbjelkejifgnfaaGreatDoor
