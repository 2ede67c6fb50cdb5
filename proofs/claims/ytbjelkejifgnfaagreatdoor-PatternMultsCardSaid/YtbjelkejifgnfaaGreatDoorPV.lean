/-
  PV: Compile: what it says, and the walk's world.
-/
import Derived.Test.YtbjelkejifgnfaaGreatDoorPR
import Derived.Test.YtbjelkejifgnfaaGreatDoorPS
import Derived.Test.YtbjelkejifgnfaaGreatDoorPM
set_option maxRecDepth 100000
namespace Go.Proofs.YtbjelkejifgnfaaGreatDoor
open Go.RowKit
def compH (es : List El) : Pt × Int × Int :=
  if (halfZ true 0 (fst16 es)).2.1 ≠ 0 then ({}, (halfZ true 0 (fst16 es)).2) else
  match snd16 es with
  | [] => (one16 (halfZ true 0 (fst16 es)).1).mix
  | e :: r => if (halfZ false (e.1.2.2 + 1) r).2.1 ≠ 0 then ({}, (halfZ false (e.1.2.2 + 1) r).2) else (two16 (halfZ true 0 (fst16 es)).1 (halfZ false (e.1.2.2 + 1) r).1).mix
theorem comp_hvs (l : List Nat) : compZ l = if (hvsT (toks l)).1 ≠ 0 then ({}, hvsT (toks l)) else compH (elsL (toks l).1) := by
  unfold compZ hvsT
  by_cases h : (toks l).2.1 ≠ 0
  · simp only [if_pos h]
  · simp only [if_neg h]
    cases hB : elsB (toks l).1 with
    | some a => simp
    | none =>
      dsimp only
      unfold compE semF compH
      cases hs : snd16 (elsL (toks l).1) with
      | nil => simp
      | cons e r =>
        dsimp only
        have hx : snd16 r = [] ∨ ∃ f t, snd16 r = f :: t := by
          cases snd16 r with
          | nil => exact .inl rfl
          | cons f t => exact .inr ⟨f, t, rfl⟩
        rcases hx with hr | ⟨f, t, hr⟩ <;> simp [hr]
theorem halfZ_len (f : Bool) (b : Int) (l : List El) : (halfZ f b l).1.pre.length ≤ 40 ∧ (halfZ f b l).1.suf.length ≤ 40 := by
  unfold halfZ
  have h1 := itms_len (tksE (hpre l))
  have h2 := itms_len (tksE (hsuf l))
  split
  · exact ⟨Nat.zero_le _, Nat.zero_le _⟩
  · split
    · exact ⟨Nat.zero_le _, Nat.zero_le _⟩
    · split
      · exact ⟨Nat.zero_le _, Nat.zero_le _⟩
      · split
        · exact ⟨Nat.zero_le _, Nat.zero_le _⟩
        · split
          · exact ⟨Nat.zero_le _, Nat.zero_le _⟩
          · exact ⟨h1, h2⟩
/-- A pattern in memory. -/
def PtM (w : World) (lo : Nat) (PV : Array Value) (p : Pt) : Prop := ∃ A0 n0 c0 A1 n1 c1 A3 n3 c3 A4 n4 c4,
  PV = patV (.slice A0 n0 c0) (.slice A1 n1 c1) (.bool p.neg) (.slice A3 n3 c3) (.slice A4 n4 c4) p.num (.int .i64 p.at_) (.int .i32 p.pad) (.int .i64 ((p.width : Nat) : Int)) ∧
  Btw w lo w.heap.size A0 n0 c0 p.pre ∧ Btw w lo w.heap.size A1 n1 c1 p.suf ∧ Btw w lo w.heap.size A3 n3 c3 p.npre ∧ Btw w lo w.heap.size A4 n4 c4 p.nsuf
theorem hv_forms {w : World} {v1 v2 : Value} {F : Int} {es : List El} (h0 : F ≠ 0 → v1 = .agg hzV ∧ v2 = .agg hzV) (h1 : F = 0 → HvOk w v1 v2 es) :
    (∃ b l A1 n1 c1 A2 n2 c2 A3 n3 c3, v1 = .agg #[.int .i64 b, .bool l, .slice A1 n1 c1, .slice A2 n2 c2, .slice A3 n3 c3]) ∧ ∃ b l A1 n1 c1 A2 n2 c2 A3 n3 c3, v2 = .agg #[.int .i64 b, .bool l, .slice A1 n1 c1, .slice A2 n2 c2, .slice A3 n3 c3] := by
  by_cases hF : F = 0
  · obtain ⟨D, ha, hb⟩ := h1 hF
    obtain ⟨A1, n1, c1, A2, n2, c2, A3, n3, c3, e, -⟩ := ha.f
    refine ⟨⟨_, _, _, _, _, _, _, _, _, _, _, e⟩, ?_⟩
    revert hb
    cases snd16 es with
    | nil => intro hb; exact ⟨_, _, _, _, _, _, _, _, _, _, _, hb⟩
    | cons x r =>
      intro hb
      obtain ⟨A1, n1, c1, A2, n2, c2, A3, n3, c3, e, -⟩ := HfM.f hb
      exact ⟨_, _, _, _, _, _, _, _, _, _, _, e⟩
  · obtain ⟨rfl, rfl⟩ := h0 hF
    exact ⟨⟨_, _, _, _, _, _, _, _, _, _, _, rfl⟩, _, _, _, _, _, _, _, _, _, _, _, rfl⟩
theorem anyK_has (p : Pt) (k : Int) : anyK k p.pre p.suf p.npre p.nsuf = p.has k := rfl
/-- The walk's world: the results' boxes. -/
structure KX (w W : World) (g : Nat) : Prop where
  bb : Below g w W
  rx : BX W g patZ 25
  fx : FB W (g + 1) (.int .i64 0) (.int .i64 0)
section
variable {w W W' : World} {g : Nat}
theorem KX.below (h : KX w W g) (hb : Below W.heap.size W W') : KX w W' g :=
  ⟨h.bb.trans (hb.mono (Nat.le_of_lt h.rx.lt)), h.rx.below hb h.rx.lt, h.fx.below hb h.fx.lt⟩
theorem KX.drew (h : KX w W g) : KX w W.drew g := ⟨h.bb.drew, h.rx, h.fx⟩
theorem KX.new (w : World) : KX w ((w.alloc (.cells patZ 25)).alloc (.cells #[.int .i64 0, .int .i64 0] 28)) w.heap.size :=
  ⟨((Below.refl _ _).alloc (Nat.le_refl _) _).alloc (by simp) _, (BX.new _ _ _).alloc _, by
    have := FB.new (w.alloc (.cells patZ 25)) (.int .i64 0) (.int .i64 0)
    simpa using this⟩
theorem KX.setF (h : KX w W g) {f : Nat} (hf : g + 1 < f) (j : Nat) (v : Value) : KX w (W.setCell ⟨f, j, none⟩ v) g :=
  ⟨h.bb.setCell (p := ⟨f, j, none⟩) (by show g ≤ f; omega) v, (heap_setCell_other W ⟨f, j, none⟩ g v (by show g ≠ f; omega)).trans h.rx, (heap_setCell_other W ⟨f, j, none⟩ (g + 1) v (by show g + 1 ≠ f; omega)).trans h.fx⟩
theorem KX.rowF (h : KX w W g) {f : Nat} (hf : g + 1 < f) (cs : Array Value) : KX w (W.setRow f cs) g :=
  ⟨h.bb.setRow (by omega) cs, (setRow_other W f g cs (by omega)).trans h.rx, (setRow_other W f (g + 1) cs (by omega)).trans h.fx⟩
theorem KX.at_ (h : KX w W g) (cs : Array Value) : FB (W.setRow g cs) (g + 1) (.int .i64 0) (.int .i64 0) :=
  (setRow_other W g (g + 1) cs (by omega)).trans h.fx
theorem KX.ret (h : KX w W g) (cs : Array Value) (e p : Value) :
    BX ((W.setRow g cs).setRow (g + 1) #[e, p]) g cs 25 ∧ FB ((W.setRow g cs).setRow (g + 1) #[e, p]) (g + 1) e p ∧
    Below g w ((W.setRow g cs).setRow (g + 1) #[e, p]) := by
  have h1 : BX (W.setRow g cs) g cs 25 := setRow_heap _ _ patZ _ _ _ h.rx
  exact ⟨(setRow_other _ (g + 1) g _ (by omega)).trans h1, setRow_heap _ _ _ _ _ _ (h.at_ cs), (h.bb.setRow (Nat.le_refl _) cs).setRow (by omega) _⟩
end
theorem st2 (w6 : World) (PV2 : Array Value) (be bp : Int) :
    FB (((w6.alloc (.cells patZ 25)).alloc (.cells #[.int .i64 0, .int .i64 0] 28)).setRow w6.heap.size PV2) (w6.heap.size + 1) (.int .i64 0) (.int .i64 0) ∧
    Below w6.heap.size w6 ((((w6.alloc (.cells patZ 25)).alloc (.cells #[.int .i64 0, .int .i64 0] 28)).setRow w6.heap.size PV2).setRow (w6.heap.size + 1) #[.int .i64 be, .int .i64 bp]) ∧
    BX ((((w6.alloc (.cells patZ 25)).alloc (.cells #[.int .i64 0, .int .i64 0] 28)).setRow w6.heap.size PV2).setRow (w6.heap.size + 1) #[.int .i64 be, .int .i64 bp]) w6.heap.size PV2 25 ∧
    FB ((((w6.alloc (.cells patZ 25)).alloc (.cells #[.int .i64 0, .int .i64 0] 28)).setRow w6.heap.size PV2).setRow (w6.heap.size + 1) #[.int .i64 be, .int .i64 bp]) (w6.heap.size + 1) (.int .i64 be) (.int .i64 bp) ∧
    w6.heap.size + 1 < ((((w6.alloc (.cells patZ 25)).alloc (.cells #[.int .i64 0, .int .i64 0] 28)).setRow w6.heap.size PV2).setRow (w6.heap.size + 1) #[.int .i64 be, .int .i64 bp]).heap.size := by
  have h0 : FB (((w6.alloc (.cells patZ 25)).alloc (.cells #[.int .i64 0, .int .i64 0] 28)).setRow w6.heap.size PV2) (w6.heap.size + 1) (.int .i64 0) (.int .i64 0) := by
    refine (setRow_other _ _ _ _ (by omega)).trans ?_
    have := FB.new (w6.alloc (.cells patZ 25)) (.int .i64 0) (.int .i64 0)
    simpa [FB] using this
  have h1 : BX (((w6.alloc (.cells patZ 25)).alloc (.cells #[.int .i64 0, .int .i64 0] 28)).setRow w6.heap.size PV2) w6.heap.size PV2 25 := setRow_heap _ _ patZ _ _ _ ((BX.new w6 patZ _).alloc _)
  have h2 : FB ((((w6.alloc (.cells patZ 25)).alloc (.cells #[.int .i64 0, .int .i64 0] 28)).setRow w6.heap.size PV2).setRow (w6.heap.size + 1) #[.int .i64 be, .int .i64 bp]) (w6.heap.size + 1) (.int .i64 be) (.int .i64 bp) := setRow_heap _ _ _ _ _ _ h0
  exact ⟨h0, ((((Below.refl _ _).alloc (Nat.le_refl _) _).alloc (by simp) _).setRow (Nat.le_refl _) _).setRow (by omega) _, (setRow_other _ _ _ _ (by omega)).trans h1, h2, h2.lt⟩
theorem patV_size20 (x0 x1 x2 x3 x4 : Value) (p : NF) (y0 y1 y2 : Value) : patZ.size = (patV x0 x1 x2 x3 x4 p y0 y1 y2).size := rfl
theorem patV_cells4 (A0 A1 A3 A4 : Option Addr) (n0 c0 n1 c1 n3 c3 n4 c4 : Nat) (ng : Bool) (p : NF) (a r z : Int) :
    ((patV (.slice A0 n0 c0) (.slice A1 n1 c1) (.bool ng) (.slice A3 n3 c3) (.slice A4 n4 c4) p (.int .i64 a) (.int .i32 r) (.int .i64 z)).all (·.oneCell')) = true := by
  simp [patV, Value.oneCell']
end Go.Proofs.YtbjelkejifgnfaaGreatDoor
