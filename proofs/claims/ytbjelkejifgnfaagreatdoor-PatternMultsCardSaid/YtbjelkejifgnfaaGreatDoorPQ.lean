/-
  PQ: a pattern's halves.
-/
import Derived.Test.YtbjelkejifgnfaaGreatDoorPH
import Derived.Test.YtbjelkejifgnfaaGreatDoorPO
set_option maxRecDepth 100000
namespace Go.Proofs.YtbjelkejifgnfaaGreatDoor
open Go.RowKit
def hzV : Array Value := #[.int .i64 0, .bool false, .slice none 0 0, .slice none 0 0, .slice none 0 0]
/-- No element is among them. -/
def noE (vs : Array Value) : Prop := ∀ (j : Nat) (T : TypeId) (y : Value), vs[j]? ≠ some (.iface T y)
theorem noE5 (b : Int) (l : Bool) (A1 A2 A3 : Option Addr) (n1 c1 n2 c2 n3 c3 : Nat) : noE #[.int .i64 b, .bool l, .slice A1 n1 c1, .slice A2 n2 c2, .slice A3 n3 c3] := by
  intro j T y
  match j with
  | 0 => simp
  | 1 => simp
  | 2 => simp
  | 3 => simp
  | 4 => simp
  | _ + 5 => simp
theorem noE2 (e p : Int) : noE #[.int .i64 e, .int .i64 p] := by
  intro j T y
  match j with
  | 0 => simp
  | 1 => simp
  | _ + 2 => simp
theorem Pls.other {w w' : World} {D n : Nat} {A : Option Addr} {es : List El} (h : Pls w D A n es) {q : Nat} {vs : Array Value} {T : TypeId} (hx : BX w q vs T) (hv : noE vs) (hs : w.heap.size ≤ w'.heap.size) (hk : ∀ k, k ≠ q → w'.heap[k]? = w.heap[k]?) : Pls w' D A n es := by
  refine ⟨⟨h.1.1, fun h0 => ?_⟩, Nat.le_trans h.2.1 hs, h.2.2⟩
  obtain ⟨ad, e, hb, hc⟩ := h.1.2 h0
  have hl : 0 < es.length := by rw [h.len]; exact h0
  have hne : ad.block ≠ q := by
    intro hq
    have h1 := hc 0 (pE es[0]) (by rw [List.getElem?_map, List.getElem?_eq_getElem hl]; rfl)
    obtain ⟨T', y, hT⟩ := pE_form es[0]
    rw [hT] at h1
    unfold World.cell? at h1
    rw [block_of_add, hq, show w.heap[q]? = _ from hx] at h1
    dsimp only at h1
    split at h1
    · cases h1
    · exact hv _ _ _ h1
  refine ⟨ad, e, hb, fun j u hu => ?_⟩
  rw [← hc j u hu]
  unfold World.cell?
  rw [block_of_add, hk _ hne]
theorem HfM.other {w w' : World} {D : Nat} {v : Value} {b : Int} {l : Bool} {es : List El} (h : HfM w D v b l es) {q : Nat} {vs : Array Value} {T : TypeId} (hx : BX w q vs T) (hv : noE vs) (hs : w.heap.size ≤ w'.heap.size) (hk : ∀ k, k ≠ q → w'.heap[k]? = w.heap[k]?) : HfM w' D v b l es := by
  obtain ⟨A1, n1, c1, A2, n2, c2, A3, n3, c3, e, h1, h2, h3, l1, l2, l3⟩ := h
  exact ⟨A1, n1, c1, A2, n2, c2, A3, n3, c3, e, h1.other hx hv hs hk, h2.other hx hv hs hk, h3.other hx hv hs hk, l1, l2, l3⟩
theorem results_ccc {P : Program} {fn : Func} {p q r : Tmp} {ty ty2 ty3 : TypeId} (h : fn.results = #[.cell p ty, .cell q ty2, .cell r ty3]) (tmps : Array Value) (w : World) (g : Nat) (t : TypeId) (cs : Array Value) (fr : Nat × Nat) (d : TypeDesc)
    (hp : tmps.getD p undef = .pointer (some ⟨g, 0, none⟩)) (hg : w.heap[g]? = some (.cells cs t fr))
    (hu : P.underlying ty = some d) (hd : (match d with | .struct _ | .array _ _ => true | _ => false) = true) (hi : (P.info? ty).map (·.size) = some cs.size)
    (g2 : Nat) (t2 : TypeId) (cs2 : Array Value) (fr2 : Nat × Nat) (d2 : TypeDesc)
    (hp2 : tmps.getD q undef = .pointer (some ⟨g2, 0, none⟩)) (hg2 : w.heap[g2]? = some (.cells cs2 t2 fr2))
    (hu2 : P.underlying ty2 = some d2) (hd2 : (match d2 with | .struct _ | .array _ _ => true | _ => false) = true) (hi2 : (P.info? ty2).map (·.size) = some cs2.size)
    (g3 : Nat) (t3 : TypeId) (cs3 : Array Value) (fr3 : Nat × Nat) (d3 : TypeDesc)
    (hp3 : tmps.getD r undef = .pointer (some ⟨g3, 0, none⟩)) (hg3 : w.heap[g3]? = some (.cells cs3 t3 fr3))
    (hu3 : P.underlying ty3 = some d3) (hd3 : (match d3 with | .struct _ | .array _ _ => true | _ => false) = true) (hi3 : (P.info? ty3).map (·.size) = some cs3.size) :
    (results fn tmps).run P w = .ok (.tuple #[.agg cs, .agg cs2, .agg cs3]) w := by
  have hp' : tmps[p]?.getD undef = .pointer (some ⟨g, 0, none⟩) := by simpa using hp
  have hp2' : tmps[q]?.getD undef = .pointer (some ⟨g2, 0, none⟩) := by simpa using hp2
  have hp3' : tmps[r]?.getD undef = .pointer (some ⟨g3, 0, none⟩) := by simpa using hp3
  simp [results, h, hp', hp2', hp3', asAddr, run_loadVar_row w g t ty cs fr d hg hu hd hi, run_loadVar_row w g2 t2 ty2 cs2 fr2 d2 hg2 hu2 hd2 hi2, run_loadVar_row w g3 t3 ty3 cs3 fr3 d3 hg3 hu3 hd3 hi3]
theorem half_size (b l x y z : Value) : (Tryz.prog.info? 49).map (·.size) = some #[b, l, x, y, z].size := by kernel_rfl
theorem half_cells (b : Int) (l : Bool) (A1 A2 A3 : Option Addr) (n1 c1 n2 c2 n3 c3 : Nat) : (#[Value.int .i64 b, .bool l, .slice A1 n1 c1, .slice A2 n2 c2, .slice A3 n3 c3].all (·.oneCell')) = true := by simp [Value.oneCell']
/-- The walk's world: the results' boxes. -/
structure GX3 (w W : World) (g : Nat) (V2 : Array Value) (e p : Int) : Prop where
  bb : Below g w W
  r1 : BX W g hzV 49
  r2 : BX W (g + 1) V2 49
  r3 : FB W (g + 2) (.int .i64 e) (.int .i64 p)
section
variable {w W W' : World} {g : Nat} {V2 : Array Value} {e p : Int}
theorem GX3.below (h : GX3 w W g V2 e p) (hb : Below W.heap.size W W') : GX3 w W' g V2 e p :=
  ⟨h.bb.trans (hb.mono (Nat.le_of_lt h.r1.lt)), h.r1.below hb h.r1.lt, h.r2.below hb h.r2.lt, h.r3.below hb h.r3.lt⟩
theorem GX3.setE (h : GX3 w W g V2 e p) (e' p' : Int) : GX3 w ((W.setCell ⟨g + 2, 0, none⟩ (.int .i64 e')).setCell ⟨g + 2, 1, none⟩ (.int .i64 p')) g V2 e' p' :=
  ⟨Below.set2 h.bb (by omega) _ _, (h.r1.other (by omega) 0 _).other (by omega) 1 _, (h.r2.other (by omega) 0 _).other (by omega) 1 _, h.r3.set _ _⟩
theorem GX3.drew (h : GX3 w W g V2 e p) : GX3 w W.drew g V2 e p := ⟨h.bb.drew, h.r1, h.r2, h.r3⟩
theorem GX3.new (w : World) : GX3 w (((w.alloc (.cells hzV 49)).alloc (.cells hzV 49)).alloc (.cells #[.int .i64 0, .int .i64 0] 28)) w.heap.size hzV 0 0 :=
  ⟨(((Below.refl _ _).alloc (Nat.le_refl _) _).alloc (by simp) _).alloc (by simp; omega) _, ((BX.new _ _ _).alloc _).alloc _, by
    have := (BX.new (w.alloc (.cells hzV 49)) hzV 49).alloc (.cells #[.int .i64 0, .int .i64 0] 28)
    simpa using this, by
    have := FB.new ((w.alloc (.cells hzV 49)).alloc (.cells hzV 49)) (.int .i64 0) (.int .i64 0)
    simpa using this⟩
theorem GX3.set2 (h : GX3 w W g V2 e p) (c2 : Array Value) : GX3 w (W.setRow (g + 1) c2) g c2 e p :=
  ⟨h.bb.setRow (by omega) c2, (setRow_other W (g + 1) g c2 (by omega)).trans h.r1, setRow_heap _ _ V2 _ _ _ h.r2, (setRow_other W (g + 1) (g + 2) c2 (by omega)).trans h.r3⟩
/-- The results' boxes, written. -/
theorem GX3.ret (h : GX3 w W g V2 e p) (c1 c2 : Array Value) (e' p' : Int) :
    BX (((W.setRow g c1).setRow (g + 1) c2).setRow (g + 2) #[.int .i64 e', .int .i64 p']) g c1 49 ∧ BX (((W.setRow g c1).setRow (g + 1) c2).setRow (g + 2) #[.int .i64 e', .int .i64 p']) (g + 1) c2 49 ∧
    FB (((W.setRow g c1).setRow (g + 1) c2).setRow (g + 2) #[.int .i64 e', .int .i64 p']) (g + 2) (.int .i64 e') (.int .i64 p') ∧ Below g w (((W.setRow g c1).setRow (g + 1) c2).setRow (g + 2) #[.int .i64 e', .int .i64 p']) := by
  have h1 : BX (W.setRow g c1) g c1 49 := setRow_heap _ _ hzV _ _ _ h.r1
  have h2 : BX (W.setRow g c1) (g + 1) V2 49 := (setRow_other W g (g + 1) c1 (by omega)).trans h.r2
  have h3 : FB (W.setRow g c1) (g + 2) (.int .i64 e) (.int .i64 p) := (setRow_other W g (g + 2) c1 (by omega)).trans h.r3
  have k2 : BX ((W.setRow g c1).setRow (g + 1) c2) (g + 1) c2 49 := setRow_heap _ _ V2 _ _ _ h2
  have k3 : FB ((W.setRow g c1).setRow (g + 1) c2) (g + 2) (.int .i64 e) (.int .i64 p) := (setRow_other _ (g + 1) (g + 2) c2 (by omega)).trans h3
  exact ⟨(setRow_other _ (g + 2) g _ (by omega)).trans ((setRow_other _ (g + 1) g c2 (by omega)).trans h1), (setRow_other _ (g + 2) (g + 1) _ (by omega)).trans k2, setRow_heap _ _ _ _ _ _ k3, ((h.bb.setRow (Nat.le_refl _) c1).setRow (by omega) c2).setRow (by omega) _⟩
end
theorem cell_ne {w : World} {ad : Addr} {q : Nat} {vs : Array Value} {T T' : TypeId} {y : Value} (hx : BX w q vs T) (hv : noE vs) (h : w.cell? ad = some (.iface T' y)) : ad.block ≠ q := by
  intro hq
  unfold World.cell? at h
  rw [hq, show w.heap[q]? = _ from hx] at h
  dsimp only at h
  split at h
  · cases h
  · exact hv _ _ _ h
theorem dw_hd {α : Type} {p : α → Bool} {l : List α} {x : α} {t : List α} (h : l.dropWhile p = x :: t) : p x = false := by
  induction l with
  | nil => simp at h
  | cons y l ih =>
    rw [List.dropWhile_cons] at h
    split at h
    · exact ih h
    · rename_i hp
      injection h with h1 _
      subst h1
      simpa using hp
theorem snd16_head {es : List El} {e : El} {r : List El} (h : snd16 es = e :: r) : e.2 = false := by
  have h1 : (!smi e) = false := dw_hd (p := fun e => !smi e) h
  have h2 : plE 59 e = true := by simpa [smi] using h1
  exact (plE_iff.1 h2).1
/-- The fault that has to do with neither half. -/
def semF (es : List El) : Int × Int := match snd16 es with
  | [] => (0, 0)
  | _ :: r => match snd16 r with
    | [] => (0, 0)
    | f :: _ => (4, f.1.2.2)
def hvsT (t : List Tok × Int × Int) : Int × Int := if t.2.1 ≠ 0 then t.2 else match elsB t.1 with
  | some a => (7, a)
  | none => semF (elsL t.1)
/-- What 'halves' answers, if there is no fault. -/
def HvOk (w : World) (v1 v2 : Value) (es : List El) : Prop := ∃ D, HfM w D v1 0 false (fst16 es) ∧ (match snd16 es with
  | [] => v2 = .agg hzV
  | e :: r => HfM w D v2 (e.1.2.2 + 1) true r)
theorem own_cp {w : World} {base size m c : Nat} {T : TypeId} {A : Option Addr} {xs : List Value} (h : w.ownsRow base T size (.slice A m c) m xs) : Cp A m c := by
  rcases h.2 with ⟨e, rfl⟩ | ⟨g', cap, cur, e, _, _, hc, _⟩
  · cases e; exact Cp.nil
  · cases e; exact Cp.some hc
theorem row_cells {w : World} {g k : Nat} {cs vs : Array Value} {T : TypeId} (h : BX w k vs T) (hk : k ≠ g) : BX (w.setRow g cs) k vs T := (setRow_other w g k cs hk).trans h
end Go.Proofs.YtbjelkejifgnfaaGreatDoor
