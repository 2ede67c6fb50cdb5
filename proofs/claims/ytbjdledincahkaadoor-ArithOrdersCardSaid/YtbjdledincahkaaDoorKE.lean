/-
  KE: Round, Div1, Div2, Div3, Div4, Div5.
-/
import Derived.Deep.RegionHeld3
import Derived.Deep.AppendLies
import Derived.OrdersIn
import Derived.RangeFuncCalls
import Derived.RangeFuncNested
import Derived.Shelf.Abstract
import Derived.RangeFuncBox
import Derived.RangeFuncLeaves
import Derived.IntWalk
import Derived.Shelf.RegionOpen
import Derived.OwnWalkIn
import Derived.TacticsInMore
import Derived.LoopNIn
import Derived.LoopIn
import Derived.Test.YtbjdledincahkaaDoorRows
import Derived.Test.YtbjdledincahkaaDoorKA
import Derived.Test.YtbjdledincahkaaDoorKC
import Derived.Test.YtbjdledincahkaaDoorKD
/- Round -/
/-
  A region that draws its order, in a round of a range over a function: by the laws for regions elsewhere.
-/
namespace Go.Proofs.YtbjdledincahkaaDoor
open Go.RowKit Go.Shelf
/-- Q, but neither a panic nor an end for want of room. -/
def Calm (Q : Exit → Act → World → Prop) : Exit → Act → World → Prop
  | .panic _, _, _ => False
  | .outgrown, _, _ => False
  | e, a, w => Q e a w
theorem Calm.imp {Q : Exit → Act → World → Prop} : ∀ (e : Exit) (a : Act) (w : World), Calm Q e a w → Q e a w := fun e a w h => by
  cases e <;> first | exact h | exact (h : False).elim
theorem Calm.normal {Q : Exit → Act → World → Prop} {a : Act} {w : World} (h : Q .normal a w) : Calm Q .normal a w := h
theorem Calm.lets {Q : Exit → Act → World → Prop} (h : LetsOut (Calm Q)) : False := by
  obtain ⟨a, w, h⟩ := h
  exact h
/-- Not a defer statement. -/
def noDefer (o : Oper) : Bool := match o.op with | .defer _ => false | _ => true
theorem noDefer_spec {o : Oper} (h : noDefer o = true) (c : Call) : o.op ≠ .defer c := fun e => by simp [noDefer, e] at h
section
variable {P : Program} {ops : Array Oper} {Q : Exit → Act → World → Prop} {md : Region.Mode} {l n : Nat}
theorem oper_in {o : Oper} {a : Act} {w : World} {K : Act → World → Prop} (hd : noDefer o = true) (h : o.wp P a w K (Calm Q)) : o.wpIn (Fence.wide.inRound l) n P a w K (Calm Q) := by
  refine ⟨fun _ _ => trivial, ?_⟩
  rw [Oper.semAt_eq _ _ _ (noDefer_spec hd)]
  unfold Oper.wp at h
  generalize (execOp a.eval o).run P w = r at *
  cases r with
  | ok x w' =>
    cases x <;> simp only [Oper.upon, Oper.uponIn] at h ⊢
    case value => exact h
    case skip => exact h
    case defer => exact h
    case enter f args => exact ⟨fun hh => (by cases hh), (callsIn_wide (n := n - 1)).2 (h.mono fun e w'' he => by cases e <;> exact he)⟩
    case row row args => exact ⟨fun hh => (by cases hh), fun c cs _ => let ⟨v, w'', r, s⟩ := h c cs; ⟨v, w'', r, stepsIn_wide.2 s⟩⟩
  | halt x w' => cases x <;> simp only [Oper.upon, Oper.uponIn] at h ⊢; exact h
theorem any_in (hd : ∀ (i : Nat) (o : Oper), ops[i]? = some o → noDefer o = true) : ∀ (fuel : Nat) (listed : Array Bool) (a : Act) (w : World),
    wpAny P md ops (Calm Q) fuel listed a w → wpAnyIn (Fence.wide.inRound l) n P md ops (Calm Q) fuel listed a w
  | 0, _, _, _, h => h
  | fuel + 1, listed, a, w, h => by
    refine ⟨h.1, fun i hi => ?_⟩
    have h1 := h.2 i hi
    unfold wpOp at h1
    unfold wpOpIn
    split
    · rename_i ho
      simp only [ho] at h1
      exact any_in hd fuel _ _ _ h1
    · rename_i o ho
      simp only [ho] at h1
      split
      · rename_i hw
        simp only [hw, if_true] at h1
        rcases h1 with h1 | ⟨_, h1⟩
        · exact Oper.wpIn_mono (fun a w h2 => any_in hd fuel _ a w h2) (oper_in (hd i o ho) h1)
        · exact (Calm.lets h1).elim
      · rename_i hw
        simp only [hw] at h1
        exact ⟨fun _ _ => trivial, any_in hd fuel _ _ _ h1⟩
/-- THE BEGINNING, in a round. -/
theorem wpIn_region_held {id : Nat} {l0 : List Oper} {S : World → Prop} {a : Act} {w : World} (hm : P.follows .mixedOrders = true) (hd : (l0.all noDefer) = true) (hS : S w.drew)
    (h : S w.drew → wpAnyH P .any l0.toArray (Calm Q) S l0.toArray.size (Array.replicate l0.toArray.size false) a w.drew) : (Code.region id l0.toArray true).wpIn (Fence.wide.inRound l) n P Q a w := by
  refine wpIn_mono (wpIn_region_any (Q := Calm Q) hm (any_in (fun i o ho => ?_) _ _ _ _ (wpAny_of_held _ _ _ _ (h hS)))) Calm.imp
  refine List.all_eq_true.1 hd o (List.mem_of_getElem? (i := i) ?_)
  simpa using ho
end
end Go.Proofs.YtbjdledincahkaaDoor
/- Div1 -/
namespace Go.Proofs.YtbjdledincahkaaDoor
open Go.RowKit Go.Shelf
attribute [local go_sem] Oper.semAt_some
/-- What a round of a loop backwards keeps: what lay below g, and the iterator's own box. -/
def Kept (g Bs : Nat) (W W' : World) : Prop := Below g W W' ∧ W'.heap[Bs]? = W.heap[Bs]?
theorem Kept.trans {g Bs : Nat} {A B C : World} (h : Kept g Bs A B) (k : Kept g Bs B C) : Kept g Bs A C := ⟨h.1.trans k.1, k.2.trans h.2⟩
theorem kept_b {g Bs : Nat} {w : World} (hn : g ≤ w.heap.size) (hB : Bs < w.heap.size) (W : World) (l : Nat) (o o' : Obj) (hl : w.heap.size ≤ l) (h : W.heap[l]? = some o) (h1 : o.isCells = false) (h2 : o.isWalk = false) : Kept g Bs W (W.putObj l o') :=
  ⟨belowK_b hn W l o o' hl h h1 h2, World.putObj_heap_other (by omega)⟩
/-- A place in a slice of n. -/
abbrev Pl (n : Nat) := {i : Nat // i < n}
end Go.Proofs.YtbjdledincahkaaDoor
/- Div2 -/
namespace Go.Proofs.YtbjdledincahkaaDoor
open Go.RowKit Go.Shelf
attribute [local go_sem] Oper.semAt_some
theorem wpIn_hide' {F : Fence} {n : Nat} {P : Program} {c : Code} {Q : Exit → Act → World → Prop} {a : Act} {w : World}
    (h : ∀ Q' : Exit → Act → World → Prop, (∀ e a w, Q e a w → Q' e a w) → c.wpIn F n P Q' a w) : c.wpIn F n P Q a w := h Q (fun _ _ _ q => q)
theorem row_own {β : Type} (base : Nat) (e : TypeId) (size : Nat) (v : Value) (k : Nat) (f : β → List Value) : Own (fun s W => W.ownsRow base e size v k (f s)) := by
  rintro s X Y row hr hg hrow
  refine hr.kept hg ?_
  rcases hr.2 with ⟨rfl, _⟩ | ⟨g, cap, cur, rfl, _, hgb, _⟩
  · exact .inl rfl
  · refine .inr fun e' => ?_
    obtain ⟨o, ho, hc⟩ := hrow g (by simpa [Value.ownBlock] using e'.symm)
    rw [hgb] at ho; cases ho; cases hc
theorem downTo_of {n : Nat} {ys : List (Pl n)} {js : List Nat} (h : ys.map (·.1) = js) {xs : List Nat} {y : Nat} : ys.foldl (fun s (i : Pl n) => dstep xs y s i.1) (0, List.replicate n 0) = drun xs y n js := by
  rw [drun, ← h, List.foldl_map]
theorem small_round {w W : World} {b0 q n i B : Nat} {y T Q : Int} {zs : List Nat} (hq : b0 + 1 < q) (Qn : Nat) (hQ : Q = (Qn : Int))
    (b1 : Boxed W b0 50 (.int .u32 y)) (b2 : Boxed W q 34 (.slice (some ⟨b0 + 1, 0, none⟩) n n)) (R : Value) (b3 : Boxed W (q + 1) 68 R)
    (ho : W.ownsRow (b0 + 1) 50 1 (.slice (some ⟨b0 + 1, 0, none⟩) n n) n (u32s zs)) (hb : Below b0 w W) :
    KeepsFrom B W ((W.setCell ⟨b0 + 1, i, none⟩ (.int .u32 Q)).setCell ⟨q + 1, 0, none⟩ (.int .u64 T)).drew ∧ Kept b0 (q + 2) W ((W.setCell ⟨b0 + 1, i, none⟩ (.int .u32 Q)).setCell ⟨q + 1, 0, none⟩ (.int .u64 T)).drew ∧
    (((Boxed ((W.setCell ⟨b0 + 1, i, none⟩ (.int .u32 Q)).setCell ⟨q + 1, 0, none⟩ (.int .u64 T)).drew b0 50 (.int .u32 y) ∧ Boxed ((W.setCell ⟨b0 + 1, i, none⟩ (.int .u32 Q)).setCell ⟨q + 1, 0, none⟩ (.int .u64 T)).drew q 34 (.slice (some ⟨b0 + 1, 0, none⟩) n n)) ∧
      Boxed ((W.setCell ⟨b0 + 1, i, none⟩ (.int .u32 Q)).setCell ⟨q + 1, 0, none⟩ (.int .u64 T)).drew (q + 1) 68 (.int .u64 T)) ∧
      ((W.setCell ⟨b0 + 1, i, none⟩ (.int .u32 Q)).setCell ⟨q + 1, 0, none⟩ (.int .u64 T)).drew.ownsRow (b0 + 1) 50 1 (.slice (some ⟨b0 + 1, 0, none⟩) n n) n (u32s (zs.set i Qn))) ∧
      Below b0 w ((W.setCell ⟨b0 + 1, i, none⟩ (.int .u32 Q)).setCell ⟨q + 1, 0, none⟩ (.int .u64 T)).drew := by
  subst hQ
  have k1 : ∀ k, k ≠ b0 + 1 → (W.setCell ⟨b0 + 1, i, none⟩ (.int .u32 (Qn : Int))).heap[k]? = W.heap[k]? := fun k hk => Below.heap_setCell _ _ _ k (fun e => hk e)
  have hr := (ho.stored i (.int .u32 (Qn : Int))).1
  rw [← u32s_set] at hr
  have hb' : ∀ {a : World}, Below b0 a W → Below b0 a ((W.setCell ⟨b0 + 1, i, none⟩ (.int .u32 (Qn : Int))).setCell ⟨q + 1, 0, none⟩ (.int .u64 T)).drew := fun h =>
    ((h.setCell (p := ⟨b0 + 1, i, none⟩) (Nat.le_succ b0) _).setCell (p := ⟨q + 1, 0, none⟩) (Nat.le_of_lt (by omega : b0 < q + 1)) _).drew
  have b3' : Boxed (W.setCell ⟨b0 + 1, i, none⟩ (.int .u32 (Qn : Int))) (q + 1) 68 R := (k1 _ (by omega)).trans b3
  refine ⟨((KeepsOthers.setCell _ _ _).trans ((KeepsOthers.setCell _ _ _).trans (KeepsOthers.drew _))).from _, ⟨hb' (Below.refl _ _), ?_⟩, ⟨⟨⟨?_, ?_⟩, b3'.set _⟩, ?_⟩, hb' hb⟩
  · exact (Below.heap_setCell _ _ _ (q + 2) (show q + 2 ≠ q + 1 by omega)).trans (k1 _ (by omega))
  · exact Boxed.other ((k1 _ (Nat.ne_of_lt (Nat.lt_succ_self b0))).trans b1) (by omega) _
  · exact Boxed.other ((k1 _ (by omega)).trans b2) (by omega) _
  · have hk := hr.kept (grownBy_setCell' (W.setCell ⟨b0 + 1, i, none⟩ (.int .u32 (Qn : Int))) (q + 1) (.int .u64 T)) (.inr (by intro e; injection e with e; change b0 + 1 = q + 1 at e; omega))
    exact hk
end Go.Proofs.YtbjdledincahkaaDoor
/- Div3 -/
namespace Go.Proofs.YtbjdledincahkaaDoor
open Go.RowKit
end Go.Proofs.YtbjdledincahkaaDoor
/- Div4 -/
namespace Go.Proofs.YtbjdledincahkaaDoor
open Go.RowKit
theorem own_one (w : World) (X : Nat) (E : Int) (hE : E = (X : Int)) : (w.alloc (.cells #[.int .u32 E] 50)).ownsRow w.heap.size 50 1 (.slice (some ⟨w.heap.size, 0, none⟩) 1 1) 1 (u32s [X]) := by
  subst hE
  exact own_of_blk (World.alloc_heap_new w _) (Nat.le_refl _) rfl (by unfold maxLen; omega)
theorem limbs_of_reads {w : World} {g n : Nat} {A : Option Addr} {xs : List Nat} (h : Reads w g 1 A n (u32s xs)) (hg : g ≤ w.heap.size) (hn : n ≤ 36000000000000) (hx : ∀ x ∈ xs, x < 1000000000) : Limbs w A n xs :=
  ⟨h.more hg, hn, fun x h' => by have := hx x h'; omega⟩
theorem own_lt {w : World} {base e size g n c : Nat} {xs : List Value} (h : w.ownsRow base e size (.slice (some ⟨g, 0, none⟩) n c) n xs) : g < w.heap.size := by
  rcases h.2 with ⟨h', _⟩ | ⟨g', cap', cur, h', _, hgb, _⟩
  · simp at h'
  · simp only [Value.slice.injEq, Option.some.injEq, Addr.mk.injEq, and_true, true_and] at h'
    obtain ⟨rfl, _⟩ := h'
    exact (Array.getElem?_eq_some_iff.1 hgb).1
theorem own_setCell_other {w : World} {base n g j : Nat} {e : TypeId} {v u : Value} {xs : List Value} (h : w.ownsRow base e 1 v n xs) (hg : g < base) : (w.setCell ⟨g, j, none⟩ u).ownsRow base e 1 v n xs := by
  refine ⟨h.1, ?_⟩
  rcases h.2 with h' | ⟨g', cap', cur, h1, h2, h3, h4⟩
  · exact .inl h'
  · refine .inr ⟨g', cap', cur, h1, h2, ?_, h4⟩
    rw [Below.heap_setCell _ _ _ g' (Nat.ne_of_gt (Nat.lt_of_lt_of_le hg h2))]
    exact h3
theorem OwnS.setCell_other {w : World} {base m c g j : Nat} {A : Option Addr} {u : Value} {ys : List Nat} (h : OwnS w base A m c ys) (hg : g < base) : OwnS (w.setCell ⟨g, j, none⟩ u) base A m c ys := ⟨own_setCell_other h.1 hg, h.2⟩
/-- Where a long division stands, k limbs of the first number being left. -/
structure LongAt (X Y N k : Nat) (rs zs : List Nat) : Prop where
  len : zs.length = N
  lt : ∀ z ∈ zs, z < 1000000000
  zero : ∀ j, j < k → zs.getD j 0 = 0
  rest : val 1000000000 rs < Y
  restLt : ∀ r ∈ rs, r < 1000000000
  eq : X = Y * val 1000000000 zs + 1000000000 ^ k * val 1000000000 rs + val 1000000000 ((digs 1000000000 X).take k)
theorem LongAt.next {X Y N k : Nat} {rs zs : List Nat} (h : LongAt X Y N (k + 1) rs zs) (hk : k < N) :
    val 1000000000 ((digs 1000000000 X).getD k 0 :: rs) < 1000000000 * Y ∧ (∀ x ∈ (digs 1000000000 X).getD k 0 :: rs, x < 1000000000) ∧
      val 1000000000 ((digs 1000000000 X).getD k 0 :: rs) / Y < 1000000000 ∧
      LongAt X Y N k (digs 1000000000 (val 1000000000 ((digs 1000000000 X).getD k 0 :: rs) % Y)) (zs.set k (val 1000000000 ((digs 1000000000 X).getD k 0 :: rs) / Y)) := by
  have hx := getD_lt 1000000000 (by omega) (digs 1000000000 X) (digs_lt 1000000000 (by omega) X) k
  have hv := val_take_succ 1000000000 (digs 1000000000 X) k
  have he := h.eq
  rw [hv, Nat.pow_succ] at he
  have hr := h.rest
  have hs := val_set 1000000000 zs k (val 1000000000 ((digs 1000000000 X).getD k 0 :: rs) / Y) (by rw [h.len]; omega)
  rw [h.zero k (by omega), Nat.mul_zero, Nat.add_zero] at hs
  have hc : ∀ d, val 1000000000 (d :: rs) = val 1000000000 rs * 1000000000 + d := fun d => by simp only [val]; omega
  have h1 := step_lt hr hx
  rw [← hc] at h1
  have hy0 : 0 < Y := by omega
  have hq : val 1000000000 ((digs 1000000000 X).getD k 0 :: rs) / Y < 1000000000 := by rw [Nat.div_lt_iff_lt_mul hy0]; omega
  refine ⟨h1, ?_, hq, ⟨by simpa using h.len, ?_, ?_, ?_, digs_lt 1000000000 (by omega) _, ?_⟩⟩
  · intro x hx'
    rcases List.mem_cons.1 hx' with rfl | hx'
    · exact hx
    · exact h.restLt x hx'
  · intro z hz
    rcases List.mem_or_eq_of_mem_set hz with hz | hz
    · exact h.lt z hz
    · rw [hz]; exact hq
  · intro j hj
    rw [getD_set_ne _ _ _ _ (by omega)]
    exact h.zero j (by omega)
  · rw [val_digs 1000000000 (by omega)]
    exact Nat.mod_lt _ hy0
  · rw [hs, val_digs 1000000000 (by omega)]
    exact long_step he (hc _)
end Go.Proofs.YtbjdledincahkaaDoor
/- Div5 -/
namespace Go.Proofs.YtbjdledincahkaaDoor
open Go.RowKit
theorem all_good {xs : List Nat} (h : ∀ x ∈ xs, x < 1000000000) : (xs.all fun x => decide (x ≤ 999999999)) = true := by
  rw [List.all_eq_true]
  intro x hx
  have := h x hx
  simp
  omega
theorem ownS_nil (w : World) (base : Nat) : OwnS w base none 0 0 [] := ⟨World.ownsRow_nil _ _ _ _, by omega, by simp⟩
end Go.Proofs.YtbjdledincahkaaDoor
