/-
  ME: NR, NS, NT.
-/
import Derived.Lib.MinMax
import Derived.Deep.DeepCutAuto
import Derived.Test.YtbjelkejifgnfaaGreatDoorNQ
/- NR -/
/-
  NR: the program's row, least, grouped.
-/
set_option maxRecDepth 100000
namespace Go.Proofs.YtbjelkejifgnfaaGreatDoor
open Go.RowKit
/- Commas where they stand. -/
theorem cmZ_small {P S : Nat} {l : List Nat} (h : l.length < P) : cmZ P S l = l := by
  induction l with
  | nil => rfl
  | cons c t ih =>
    rw [List.length_cons] at h
    rw [cmZ, if_neg (by omega), ih (by omega)]; rfl
theorem cmZ_at {P S : Nat} (hP : 1 ≤ P) {b : List Nat} (hb : b.length = P) : cmZ P S b = 44 :: b := by
  cases b with
  | nil => simp at hb; omega
  | cons c t =>
    rw [List.length_cons] at hb
    rw [cmZ, if_pos ⟨by omega, .inl hb⟩, cmZ_small (by omega)]; rfl
theorem cmZ_same {P : Nat} (hP : 1 ≤ P) {b : List Nat} (hb : b.length = P) (a : List Nat) : cmZ P P (a ++ b) = a ++ 44 :: b := by
  induction a with
  | nil => exact cmZ_at hP hb
  | cons c t ih =>
    show cmZ P P (c :: (t ++ b)) = _
    rw [cmZ, if_neg (by rw [List.length_append]; omega), ih]; rfl
theorem cmZ_mid {P S : Nat} (hP : 1 ≤ P) {b : List Nat} (hb : b.length = P) {m : List Nat} (hm : m.length < S) : cmZ P S (m ++ b) = m ++ 44 :: b := by
  induction m with
  | nil => exact cmZ_at hP hb
  | cons c t ih =>
    rw [List.length_cons] at hm
    show cmZ P S (c :: (t ++ b)) = _
    rw [cmZ, if_neg (by rw [List.length_append]; omega), ih (by omega)]; rfl
theorem cmZ_two {P S : Nat} (hP : 1 ≤ P) (hS : 1 ≤ S) (hSP : S ≠ P) {b m : List Nat} (hb : b.length = P) (hm : m.length = S) (a : List Nat) : cmZ P S (a ++ (m ++ b)) = a ++ 44 :: (m ++ 44 :: b) := by
  induction a with
  | nil =>
    cases m with
    | nil => simp at hm; omega
    | cons x m' =>
      rw [List.length_cons] at hm
      show cmZ P S (x :: (m' ++ b)) = _
      rw [cmZ, if_pos ⟨by omega, .inr ⟨hSP, by rw [List.length_append]; omega⟩⟩, cmZ_mid hP hb (by omega)]; rfl
  | cons c t ih =>
    show cmZ P S (c :: (t ++ (m ++ b))) = _
    rw [cmZ, if_neg (by rw [List.length_append, List.length_append]; omega), ih]; rfl
theorem cmW_zero (S : Nat) (l : List Nat) : cmW 0 S l = l := by
  cases l with
  | nil => rfl
  | cons c t => rw [cmW, cmZ_nil_P]
theorem cmW_same {P : Nat} (hP : 1 ≤ P) {l : List Nat} (h : P < l.length) : cmW P P l = l.take (l.length - P) ++ 44 :: l.drop (l.length - P) := by
  cases l with
  | nil => simp at h
  | cons c t =>
    rw [List.length_cons] at h ⊢
    rw [cmW, show t.length + 1 - P = (t.length - P) + 1 by omega, List.take_succ_cons, List.drop_succ_cons]
    have := cmZ_same hP (b := t.drop (t.length - P)) (by rw [List.length_drop]; omega) (t.take (t.length - P))
    rw [List.take_append_drop] at this
    rw [this]; rfl
theorem cmW_two {P S : Nat} (hP : 1 ≤ P) (hS : 1 ≤ S) (hSP : S ≠ P) {l : List Nat} (h : P + S < l.length) : cmW P S l = l.take (l.length - P - S) ++ 44 :: ((l.take (l.length - P)).drop (l.length - P - S) ++ 44 :: l.drop (l.length - P)) := by
  cases l with
  | nil => simp at h
  | cons c t =>
    rw [List.length_cons] at h ⊢
    rw [cmW, show t.length + 1 - P - S = (t.length - P - S) + 1 by omega, show t.length + 1 - P = (t.length - P) + 1 by omega, List.take_succ_cons, List.take_succ_cons, List.drop_succ_cons, List.drop_succ_cons]
    have := cmZ_two hP hS hSP (b := t.drop (t.length - P)) (m := (t.take (t.length - P)).drop (t.length - P - S)) (by rw [List.length_drop]; omega) (by rw [List.length_drop, List.length_take]; omega) (t.take (t.length - P - S))
    show c :: cmZ P S t = c :: (t.take (t.length - P - S) ++ 44 :: ((t.take (t.length - P)).drop (t.length - P - S) ++ 44 :: t.drop (t.length - P)))
    rw [← this]
    congr 2
    rw [← List.append_assoc]
    have e : t.take (t.length - P - S) ++ (t.take (t.length - P)).drop (t.length - P - S) = t.take (t.length - P) := by
      conv => rhs; rw [← List.take_append_drop (t.length - P - S) (t.take (t.length - P)), List.take_take, Nat.min_eq_left (by omega)]
    rw [e, List.take_append_drop]
/-- A pattern's cells, written out. -/
theorem patV_def (x0 x1 x2 x3 x4 : Value) (p : NF) (y0 y1 y2 : Value) : patV x0 x1 x2 x3 x4 p y0 y1 y2 = #[x0, x1, x2, x3, x4, .int .i64 (p.minInt : Int), .int .i64 (p.maxInt : Int), .int .i64 (p.minFrac : Int), .int .i64 (p.maxFrac : Int), .int .i64 (p.minSig : Int), .int .i64 (p.maxSig : Int),
    .int .i64 (p.prim : Int), .int .i64 (p.sec : Int), .string (stz p.inc), .bool p.sci, .int .i64 (p.minExp : Int), .bool p.plus, y0, y1, y2] := rfl
end Go.Proofs.YtbjelkejifgnfaaGreatDoor
/- NS -/
/-
  NS: the program's grouped.
-/
set_option maxRecDepth 100000
namespace Go.Proofs.YtbjelkejifgnfaaGreatDoor
open Go.RowKit
theorem ext_sizes (T : ByteArray) {i j : Nat} (hij : i ≤ j) (hj : j ≤ T.size) : (T.extract i j).size = j - i := by rw [ByteArray.size_extract]; omega
end Go.Proofs.YtbjelkejifgnfaaGreatDoor
/- NT -/
/-
  NT: the program's shortest number part.
-/
set_option maxRecDepth 100000
namespace Go.Proofs.YtbjelkejifgnfaaGreatDoor
open Go.RowKit
theorem exec_load_row {P : Program} {o : Oper} {ev : Operand → Value} {w : World} (ty : TypeId) (x : Operand) (ho : o.op = .load ty x) (g : Nat) (hx : ev x = .pointer (some ⟨g, 0, none⟩)) (t : TypeId) (cs : Array Value) (fr : Nat × Nat) (d : TypeDesc) (hg : w.heap[g]? = some (.cells cs t fr))
    (hu : P.underlying ty = some d) (hd : (match d with | .struct _ | .array _ _ => true | _ => false) = true) (hi : (P.info? ty).map (·.size) = some cs.size) : (execOp ev o).run P w = .ok (.value (.agg cs)) w := by
  unfold execOp
  simp only [ho, hx, Instr.loadAt, Instr.sureAddr, Sem.run_bind, Sem.run_pure, Result.andThen_ok, run_loadVar_row w g t ty cs fr d hg hu hd hi]
/-- A pattern's box, made when the call began. -/
structure GX (w0 W : World) (g : Nat) (vs : Array Value) : Prop where
  b : Below w0.heap.size w0 W
  bx : BX W g vs 25
section
variable {w0 W : World} {g : Nat} {vs : Array Value} {x0 x1 x2 x3 x4 y0 y1 y2 : Value} {p : NF}
theorem GX.below {W' : World} (x : GX w0 W g vs) (hb : Below W.heap.size W W') : GX w0 W' g vs := ⟨x.b.trans (hb.mono x.b.size), x.bx.below hb x.bx.lt⟩
theorem GX.drew (x : GX w0 W g vs) : GX w0 W.drew g vs := ⟨x.b.drew, x.bx⟩
theorem GX.S (x : GX w0 W g (patV x0 x1 x2 x3 x4 p y0 y1 y2)) : Hid (GX w0 W g (patV x0 x1 x2 x3 x4 p y0 y1 y2)) ∧ W.cell? ⟨g, 5, none⟩ = some (.int .i64 (p.minInt : Int)) ∧ W.cell? ⟨g, 6, none⟩ = some (.int .i64 (p.maxInt : Int)) ∧ W.cell? ⟨g, 7, none⟩ = some (.int .i64 (p.minFrac : Int)) ∧ W.cell? ⟨g, 8, none⟩ = some (.int .i64 (p.maxFrac : Int)) ∧ W.cell? ⟨g, 9, none⟩ = some (.int .i64 (p.minSig : Int)) ∧ W.cell? ⟨g, 10, none⟩ = some (.int .i64 (p.maxSig : Int)) ∧ W.cell? ⟨g, 13, none⟩ = some (.string (stz p.inc)) ∧ W.cell? ⟨g, 14, none⟩ = some (.bool p.sci) ∧ W.cell? ⟨g, 15, none⟩ = some (.int .i64 (p.minExp : Int)) ∧ W.cell? ⟨g, 16, none⟩ = some (.bool p.plus) := ⟨Lib.hid x, x.bx.c 5, x.bx.c 6, x.bx.c 7, x.bx.c 8, x.bx.c 9, x.bx.c 10, x.bx.c 13, x.bx.c 14, x.bx.c 15, x.bx.c 16⟩
end
/-- Behind a cut: a slot holds what it should, the box stays. -/
def SMid (w0 : World) (g : Nat) (vs : Array Value) (v u : Value) (W' : World) : Prop := u = v ∧ GX w0 W' g vs
end Go.Proofs.YtbjelkejifgnfaaGreatDoor
