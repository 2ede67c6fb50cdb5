/-
  KE: Round, Div1, Div2, Div3, Div4, Div5.
-/
import Derived.Deep.RegionHeld3
import Derived.Deep.AppendLies
import Derived.OrdersIn
import Derived.RangeFuncCalls
import Derived.RangeFuncNested
import Derived.Shelf.Abstract
import Derived.RangeFuncBox
import Derived.RangeFuncLeaves
import Derived.IntWalk
import Derived.Shelf.RegionOpen
import Derived.OwnWalkIn
import Derived.TacticsInMore
import Derived.LoopNIn
import Derived.LoopIn
import Derived.Test.YtkfjombeaidimaaDoorRows
import Derived.Test.YtkfjombeaidimaaDoorKA
import Derived.Test.YtkfjombeaidimaaDoorKC
import Derived.Test.YtkfjombeaidimaaDoorKD
/- Round -/
/-
  A region that draws its order, in a round of a range over a function: by the laws for regions elsewhere.
-/
set_option maxRecDepth 100000
namespace Go.Proofs.YtkfjombeaidimaaDoor
open Go.RowKit Go.Shelf
/-- Q, but neither a panic nor an end for want of room. -/
def Calm (Q : Exit → Act → World → Prop) : Exit → Act → World → Prop
  | .panic _, _, _ => False
  | .outgrown, _, _ => False
  | e, a, w => Q e a w
theorem Calm.imp {Q : Exit → Act → World → Prop} : ∀ (e : Exit) (a : Act) (w : World), Calm Q e a w → Q e a w := fun e a w h => by
  cases e <;> first | exact h | exact (h : False).elim
theorem Calm.normal {Q : Exit → Act → World → Prop} {a : Act} {w : World} (h : Q .normal a w) : Calm Q .normal a w := h
theorem Calm.lets {Q : Exit → Act → World → Prop} (h : LetsOut (Calm Q)) : False := by
  obtain ⟨a, w, h⟩ := h
  exact h
/-- Not a defer statement. -/
def noDefer (o : Oper) : Bool := match o.op with | .defer _ => false | _ => true
theorem noDefer_spec {o : Oper} (h : noDefer o = true) (c : Call) : o.op ≠ .defer c := fun e => by simp [noDefer, e] at h
section
variable {P : Program} {ops : Array Oper} {Q : Exit → Act → World → Prop} {md : Region.Mode} {l n : Nat}
theorem oper_in {o : Oper} {a : Act} {w : World} {K : Act → World → Prop} (hd : noDefer o = true) (h : o.wp P a w K (Calm Q)) : o.wpIn (Fence.wide.inRound l) n P a w K (Calm Q) := by
  refine ⟨fun _ _ => trivial, ?_⟩
  rw [Oper.semAt_eq _ _ _ (noDefer_spec hd)]
  unfold Oper.wp at h
  generalize (execOp a.eval o).run P w = r at *
  cases r with
  | ok x w' =>
    cases x <;> simp only [Oper.upon, Oper.uponIn] at h ⊢
    case value => exact h
    case skip => exact h
    case defer => exact h
    case enter f args => exact ⟨fun hh => (by cases hh), (callsIn_wide (n := n - 1)).2 (h.mono fun e w'' he => by cases e <;> exact he)⟩
    case row row args => exact ⟨fun hh => (by cases hh), fun c cs _ => let ⟨v, w'', r, s⟩ := h c cs; ⟨v, w'', r, stepsIn_wide.2 s⟩⟩
  | halt x w' => cases x <;> simp only [Oper.upon, Oper.uponIn] at h ⊢; exact h
theorem any_in (hd : ∀ (i : Nat) (o : Oper), ops[i]? = some o → noDefer o = true) : ∀ (fuel : Nat) (listed : Array Bool) (a : Act) (w : World),
    wpAny P md ops (Calm Q) fuel listed a w → wpAnyIn (Fence.wide.inRound l) n P md ops (Calm Q) fuel listed a w
  | 0, _, _, _, h => h
  | fuel + 1, listed, a, w, h => by
    refine ⟨h.1, fun i hi => ?_⟩
    have h1 := h.2 i hi
    unfold wpOp at h1
    unfold wpOpIn
    split
    · rename_i ho
      simp only [ho] at h1
      exact any_in hd fuel _ _ _ h1
    · rename_i o ho
      simp only [ho] at h1
      split
      · rename_i hw
        simp only [hw, if_true] at h1
        rcases h1 with h1 | ⟨_, h1⟩
        · exact Oper.wpIn_mono (fun a w h2 => any_in hd fuel _ a w h2) (oper_in (hd i o ho) h1)
        · exact (Calm.lets h1).elim
      · rename_i hw
        simp only [hw] at h1
        exact ⟨fun _ _ => trivial, any_in hd fuel _ _ _ h1⟩
/-- THE BEGINNING, in a round. -/
theorem wpIn_region_held {id : Nat} {l0 : List Oper} {S : World → Prop} {a : Act} {w : World} (hm : P.follows .mixedOrders = true) (hd : (l0.all noDefer) = true) (hS : S w.drew)
    (h : S w.drew → wpAnyH P .any l0.toArray (Calm Q) S l0.toArray.size (Array.replicate l0.toArray.size false) a w.drew) : (Code.region id l0.toArray true).wpIn (Fence.wide.inRound l) n P Q a w := by
  refine wpIn_mono (wpIn_region_any (Q := Calm Q) hm (any_in (fun i o ho => ?_) _ _ _ _ (wpAny_of_held _ _ _ _ (h hS)))) Calm.imp
  refine List.all_eq_true.1 hd o (List.mem_of_getElem? (i := i) ?_)
  simpa using ho
end
end Go.Proofs.YtkfjombeaidimaaDoor
/- Div1 -/
namespace Go.Proofs.YtkfjombeaidimaaDoor
open Go.RowKit Go.Shelf
attribute [local go_sem] Oper.semAt_some
/-- What a round of a loop backwards keeps: what lay below g, and the iterator's own box. -/
def Kept (g Bs : Nat) (W W' : World) : Prop := Below g W W' ∧ W'.heap[Bs]? = W.heap[Bs]?
theorem Kept.trans {g Bs : Nat} {A B C : World} (h : Kept g Bs A B) (k : Kept g Bs B C) : Kept g Bs A C := ⟨h.1.trans k.1, k.2.trans h.2⟩
theorem kept_b {g Bs : Nat} {w : World} (hn : g ≤ w.heap.size) (hB : Bs < w.heap.size) (W : World) (l : Nat) (o o' : Obj) (hl : w.heap.size ≤ l) (h : W.heap[l]? = some o) (h1 : o.isCells = false) (h2 : o.isWalk = false) : Kept g Bs W (W.putObj l o') :=
  ⟨belowK_b hn W l o o' hl h h1 h2, World.putObj_heap_other (by omega)⟩
/-- A place in a slice of n. -/
abbrev Pl (n : Nat) := {i : Nat // i < n}
set_option maxRecDepth 100000 in
set_option maxHeartbeats 2000000 in
/-- slices.Backward's closure. -/
theorem back1_c (F : Fence) (m : Nat) (hF : F.fn 80) (hro : F.round = none) (hm : 1 ≤ m) (l Bs g : Nat) (A : Option Addr) (n c : Nat) (xs : List Nat) (hn : n ≤ 1000000000)
    (J Jx : List (Pl n) → World → Prop)
    (hY : ∀ pre x W, J pre W → pre.length < n → YieldAt F (m - 1) Tryd.prog l #[.int .i64 (x.1 : Int), .int .u32 ((xs.getD x.1 0 : Nat) : Int)] W fun e W' =>
      (e = .returned (.bool true) ∧ J (pre ++ [x]) W' ∧ Kept g Bs W W') ∨ (e = .returned (.bool false) ∧ Jx (pre ++ [x]) W'))
    (W : World) (hBs : Boxed W Bs 57 (.slice A n c)) (hR : Reads W g 1 A n (u32s xs)) (h0 : J [] W) :
    CallsIn F m Tryd.prog 80 #[.func (.yield l) #[] #[], .pointer (some ⟨Bs, 0, none⟩)] W fun e W' => (∃ v, e = .returned v) ∧
      ((∃ ys, ys.map (·.1) = downTo n n ∧ J ys W') ∨ (∃ pre, True ∧ Jx pre W')) := by
  have HR := Lib.hid hR
  have hcs := Lib.hid hBs
  have hbs0 := hBs.cell
  clear hR hBs
  refine callsIn_of_wp Tryd.func80 rfl hF ?_ hro
  simp only [Tryd.ntmps80, List.size_toArray, List.length_cons, List.length_nil, Nat.reduceAdd, Nat.reduceSub, Array.replicate_succ, Array.replicate_zero, List.push_toArray, List.append_toArray, List.nil_append, List.cons_append]
  gi_wp2
  gi_loopw [3] (fun i wr => ∃ (z : Int) (k : Nat) (pre : List (Pl n)), k ≤ n ∧ z = (n : Int) - 1 - (k : Int) ∧ i = .int .i64 z ∧ pre.map (·.1) = downTo n k ∧ J pre wr ∧ Kept g Bs W wr)
    (fun i _ => (intOf i + 1).toNat)
  case atStart => exact ⟨_, 0, [], Nat.zero_le _, by omega, rfl, rfl, h0, Below.refl _ _, rfl⟩
  case round =>
    obtain ⟨z, k, pre, hk, hz, rfl, hpre0, hJs, hnx0⟩ := hrel
    have HP := Lib.hid hpre0
    have HB := Lib.hid hnx0
    have hbs : wr.cell? ⟨Bs, 0, none⟩ = some (.slice A n c) := Boxed.cell (hnx0.2.trans hcs.out)
    clear hpre0 hnx0 hbs0
    by_cases hlt : k < n
    · obtain ⟨i, hi⟩ : ∃ i : Nat, i = n - 1 - k := ⟨_, rfl⟩
      obtain rfl : z = (i : Int) := by omega
      have hin : i < n := by omega
      have HI := Lib.hid hi
      clear hz hi
      have hlen : pre.length < n := by
        have := congrArg List.length HP.out
        simp [downTo] at this
        omega
      obtain ⟨ad, rfl, hb, hc⟩ := reads_at (HR.out.below HB.out.1) hin
      obtain ⟨fn, tmps, assign, body, hy, hRo⟩ := hY pre ⟨i, hin⟩ wr hJs hlen
      dsimp only at hy
      generalize xs.getD i 0 = X at hc hy
      gi_wp2
      refine hRo.mono ?_
      rintro e W3 (⟨rfl, hJ3, hk3⟩ | ⟨rfl, hJx3⟩)
      · have HB3 := Lib.hid (HB.out.trans hk3)
        clear hk3
        gi_wp2
        go_roundw
        case rel => exact ⟨_, k + 1, pre ++ [⟨i, hin⟩], by omega, by have := HI.out; omega, rfl, by rw [downTo_succ, List.map_append, HP.out, ← HI.out]; rfl, hJ3, HB3.out⟩
        case measure => simp [intOf]
      · gi_wp2
        refine bodyPost_ret (results_none rfl _ _ _) rfl ?_
        exact ⟨⟨_, rfl⟩, .inr ⟨_, trivial, hJx3⟩⟩
    · obtain rfl : k = n := by omega
      obtain rfl : z = -1 := by omega
      clear hz
      gi_wp2
      go_end0
      exact ⟨⟨_, rfl⟩, .inl ⟨_, HP.out, hJs⟩⟩
/-- slices.Backward(s) hands back a value that goes through all places from above. -/
theorem back_stops (m : Nat) (hm : 1 ≤ m) (Bs g : Nat) (A : Option Addr) (n c : Nat) (xs : List Nat) (hn : n ≤ 1000000000) (w : World) (hg : g ≤ w.heap.size) (hBs : Boxed w Bs 57 (.slice A n c)) (hR : Reads w g 1 A n (u32s xs)) :
    SeqStopsK Fence.wide m Tryd.prog 80 #[.pointer (some ⟨Bs, 0, none⟩)] (fun x : Pl n => #[Value.int .i64 (x.1 : Int), .int .u32 ((xs.getD x.1 0 : Nat) : Int)]) (Kept g Bs)
      (fun ys => ys.map (·.1) = downTo n n) (fun _ => True) n w := fun l J Jx W hW _ _ hY h0 =>
  back1_c Fence.wide m trivial rfl hm l Bs g A n c xs hn J Jx hY W ((hW.block Bs hBs.lt).trans hBs) (hR.below (hW.mono hg)) h0
set_option maxHeartbeats 1000000 in
theorem backward_c (A : Option Addr) (n c : Nat) (w : World) :
    Calls Tryd.prog 67 #[.slice A n c] w fun e w' => e = .returned (.func (.func 80) #[] #[.pointer (some ⟨w.heap.size, 0, none⟩)]) ∧ w.alloc (.cells #[.slice A n c] 57) = w' := by
  go_enter Tryd.func67, Tryd.ntmps67
  go_wp2
  go_ret
  exact ⟨rfl, rfl⟩
end Go.Proofs.YtkfjombeaidimaaDoor
/- Div2 -/
namespace Go.Proofs.YtkfjombeaidimaaDoor
open Go.RowKit Go.Shelf
attribute [local go_sem] Oper.semAt_some
theorem wpIn_hide' {F : Fence} {n : Nat} {P : Program} {c : Code} {Q : Exit → Act → World → Prop} {a : Act} {w : World}
    (h : ∀ Q' : Exit → Act → World → Prop, (∀ e a w, Q e a w → Q' e a w) → c.wpIn F n P Q' a w) : c.wpIn F n P Q a w := h Q (fun _ _ _ q => q)
theorem row_own {β : Type} (base : Nat) (e : TypeId) (size : Nat) (v : Value) (k : Nat) (f : β → List Value) : Own (fun s W => W.ownsRow base e size v k (f s)) := by
  rintro s X Y row hr hg hrow
  refine hr.kept hg ?_
  rcases hr.2 with ⟨rfl, _⟩ | ⟨g, cap, cur, rfl, _, hgb, _⟩
  · exact .inl rfl
  · refine .inr fun e' => ?_
    obtain ⟨o, ho, hc⟩ := hrow g (by simpa [Value.ownBlock] using e'.symm)
    rw [hgb] at ho; cases ho; cases hc
theorem downTo_of {n : Nat} {ys : List (Pl n)} {js : List Nat} (h : ys.map (·.1) = js) {xs : List Nat} {y : Nat} : ys.foldl (fun s (i : Pl n) => dstep xs y s i.1) (0, List.replicate n 0) = drun xs y n js := by
  rw [drun, ← h, List.foldl_map]
theorem small_round {w W : World} {b0 q n i B : Nat} {y T Q : Int} {zs : List Nat} (hq : b0 + 1 < q) (Qn : Nat) (hQ : Q = (Qn : Int))
    (b1 : Boxed W b0 62 (.int .u32 y)) (b2 : Boxed W q 57 (.slice (some ⟨b0 + 1, 0, none⟩) n n)) (R : Value) (b3 : Boxed W (q + 1) 92 R)
    (ho : W.ownsRow (b0 + 1) 62 1 (.slice (some ⟨b0 + 1, 0, none⟩) n n) n (u32s zs)) (hb : Below b0 w W) :
    KeepsFrom B W ((W.setCell ⟨b0 + 1, i, none⟩ (.int .u32 Q)).setCell ⟨q + 1, 0, none⟩ (.int .u64 T)).drew ∧ Kept b0 (q + 2) W ((W.setCell ⟨b0 + 1, i, none⟩ (.int .u32 Q)).setCell ⟨q + 1, 0, none⟩ (.int .u64 T)).drew ∧
    (((Boxed ((W.setCell ⟨b0 + 1, i, none⟩ (.int .u32 Q)).setCell ⟨q + 1, 0, none⟩ (.int .u64 T)).drew b0 62 (.int .u32 y) ∧ Boxed ((W.setCell ⟨b0 + 1, i, none⟩ (.int .u32 Q)).setCell ⟨q + 1, 0, none⟩ (.int .u64 T)).drew q 57 (.slice (some ⟨b0 + 1, 0, none⟩) n n)) ∧
      Boxed ((W.setCell ⟨b0 + 1, i, none⟩ (.int .u32 Q)).setCell ⟨q + 1, 0, none⟩ (.int .u64 T)).drew (q + 1) 92 (.int .u64 T)) ∧
      ((W.setCell ⟨b0 + 1, i, none⟩ (.int .u32 Q)).setCell ⟨q + 1, 0, none⟩ (.int .u64 T)).drew.ownsRow (b0 + 1) 62 1 (.slice (some ⟨b0 + 1, 0, none⟩) n n) n (u32s (zs.set i Qn))) ∧
      Below b0 w ((W.setCell ⟨b0 + 1, i, none⟩ (.int .u32 Q)).setCell ⟨q + 1, 0, none⟩ (.int .u64 T)).drew := by
  subst hQ
  have k1 : ∀ k, k ≠ b0 + 1 → (W.setCell ⟨b0 + 1, i, none⟩ (.int .u32 (Qn : Int))).heap[k]? = W.heap[k]? := fun k hk => Below.heap_setCell _ _ _ k (fun e => hk e)
  have hr := (ho.stored i (.int .u32 (Qn : Int))).1
  rw [← u32s_set] at hr
  have hb' : ∀ {a : World}, Below b0 a W → Below b0 a ((W.setCell ⟨b0 + 1, i, none⟩ (.int .u32 (Qn : Int))).setCell ⟨q + 1, 0, none⟩ (.int .u64 T)).drew := fun h =>
    ((h.setCell (p := ⟨b0 + 1, i, none⟩) (Nat.le_succ b0) _).setCell (p := ⟨q + 1, 0, none⟩) (Nat.le_of_lt (by omega : b0 < q + 1)) _).drew
  have b3' : Boxed (W.setCell ⟨b0 + 1, i, none⟩ (.int .u32 (Qn : Int))) (q + 1) 92 R := (k1 _ (by omega)).trans b3
  refine ⟨((KeepsOthers.setCell _ _ _).trans ((KeepsOthers.setCell _ _ _).trans (KeepsOthers.drew _))).from _, ⟨hb' (Below.refl _ _), ?_⟩, ⟨⟨⟨?_, ?_⟩, b3'.set _⟩, ?_⟩, hb' hb⟩
  · exact (Below.heap_setCell _ _ _ (q + 2) (show q + 2 ≠ q + 1 by omega)).trans (k1 _ (by omega))
  · exact Boxed.other ((k1 _ (Nat.ne_of_lt (Nat.lt_succ_self b0))).trans b1) (by omega) _
  · exact Boxed.other ((k1 _ (by omega)).trans b2) (by omega) _
  · have hk := hr.kept (grownBy_setCell' (W.setCell ⟨b0 + 1, i, none⟩ (.int .u32 (Qn : Int))) (q + 1) (.int .u64 T)) (.inr (by intro e; injection e with e; change b0 + 1 = q + 1 at e; omega))
    exact hk
set_option maxHeartbeats 1000000 in
theorem divSmall_zero (A : Option Addr) (n c : Nat) (w : World) :
    Calls Tryd.prog 55 #[.slice A n c, .int .u32 0] w fun e w' => e = .returned (.tuple #[.slice none 0 0, .int .u32 0, .bool false]) ∧ Below w.heap.size w w' := by
  go_enter Tryd.func55, Tryd.ntmps55
  go_wp2
  go_ret3
  exact ⟨rfl, (Below.refl _ _).alloc (Nat.le_refl _) _⟩
set_option maxHeartbeats 2000000 in
set_option maxRecDepth 100000 in
theorem divSmall_c (A : Option Addr) (n c : Nat) (xs : List Nat) (y : Nat) (w : World) (h : Limbs w A n xs) (gx : ∀ x ∈ xs, x < 1000000000) (hn : n ≤ 900000000) (hy0 : 0 < y) (hy : y < 1000000000) :
    Calls Tryd.prog 55 #[.slice A n c, .int .u32 (y : Int)] w fun e w' => ∃ A' m' c', e = .returned (.tuple #[.slice A' m' c', .int .u32 ((val 1000000000 xs % y : Nat) : Int), .bool true]) ∧
      OwnS w' w.heap.size A' m' c' (digs 1000000000 (val 1000000000 xs / y)) ∧ Below w.heap.size w w' := by
  obtain ⟨i0, hi, hz0, hz1, hz2⟩ := info_parts u32_info
  have hyb : ((y : Int) == 0) = false := by simp; omega
  have H := Lib.hid h
  have GX := Lib.hid gx
  have HL := Lib.hid h.len
  clear h gx
  refine callsIn_wide.1 (callsIn_of_wp_marks (n := 6) Tryd.func55 rfl trivial ?_ rfl)
  refine wpIn_wide.2 ?_
  simp only [Tryd.ntmps55, List.size_toArray, List.length_cons, List.length_nil, Nat.reduceAdd, Nat.reduceSub, Array.replicate_succ, Array.replicate_zero, List.push_toArray, List.append_toArray, List.nil_append, List.cons_append]
  have HB0 := Lib.hid ((Below.refl w.heap.size w).alloc (Nat.le_refl _) (.cells #[.int .u32 (y : Int)] 62))
  go_wp2_with (at_make; refine wpList_make_full _ rfl _ _ 57 rfl (w.heap.size + 1) 62 i0 (.int .u32 0) 1 Tryd.underlying57 hi hz0 hz1 _ _ _ _ n rfl rfl ?b0 ?b1 ?b2 ?b3 ?b4 ?_)
  case b0 => omega
  case b1 => omega
  case b2 => rw [hz2]; omega
  case b3 => unfold maxLen; omega
  case b4 => simp
  intro w1 hown hgrow
  rw [made_u32] at hown
  have HB1 := Lib.hid (HB0.out.trans (((Below.refl _ _).grown hgrow (Nat.le_refl _) (fun k hk => by cases hk)).mono (by simp)))
  have bY : Boxed w1 w.heap.size 62 (.int .u32 (y : Int)) := (Boxed.new w _ _).kept hgrow (by simp)
  have hg1 : w.heap.size + 1 < w1.heap.size := by
    rcases hown.2 with ⟨h', _⟩ | ⟨g', cap', cur, h', _, hgb, _⟩
    · simp at h'
    · simp only [Value.slice.injEq, Option.some.injEq, Addr.mk.injEq, and_true, true_and] at h'
      obtain ⟨rfl, rfl⟩ := h'
      exact (Array.getElem?_eq_some_iff.1 hgb).1
  have hyc := bY.cell
  have hyf := bY.frozen
  have HO := Lib.hid hown
  have HbY := Lib.hid bY
  clear hown hgrow bY HB0
  have HR := Lib.hid (H.out.1.below HB1.out)
  generalize hb0 : w.heap.size = b0 at *
  generalize hq : w1.heap.size = q at *
  have Hb0 := Lib.hid hb0
  have Hq := Lib.hid hq
  clear hb0 hq
  go_wp2_with (go_at_call 67; refine (backward_c _ _ _ _).mono ?_; rintro e w' ⟨rfl, rfl⟩)
  obtain ⟨W1, hW1⟩ : ∃ W1 : World, w1.alloc (.cells #[.slice (some ⟨b0 + 1, 0, none⟩) n n] 57) = W1 := ⟨_, rfl⟩
  obtain ⟨W2, hW2⟩ : ∃ W2 : World, W1.alloc (.cells #[.int .u64 0] 92) = W2 := ⟨_, rfl⟩
  obtain ⟨W3, hW3⟩ : ∃ W3 : World, W2.alloc (.cells #[.slice A n c] 57) = W3 := ⟨_, rfl⟩
  have s1 : W1.heap.size = q + 1 := by rw [← hW1, World.size_alloc, Hq.out]
  have s2 : W2.heap.size = q + 2 := by rw [← hW2, World.size_alloc, s1]
  have s3 : W3.heap.size = q + 3 := by rw [← hW3, World.size_alloc, s2]
  have bQ : Boxed W1 q 57 (.slice (some ⟨b0 + 1, 0, none⟩) n n) := by rw [← hW1, ← Hq.out]; exact Boxed.new _ _ _
  have bR : Boxed W2 (q + 1) 92 (.int .u64 0) := by rw [← hW2, ← s1]; exact Boxed.new _ _ _
  have bS : Boxed W3 (q + 2) 57 (.slice A n c) := by rw [← hW3, ← s2]; exact Boxed.new _ _ _
  have e1 : ∀ {B t v}, Boxed w1 B t v → Boxed W1 B t v := fun h => by rw [← hW1]; exact h.alloc _
  have e2 : ∀ {B t v}, Boxed W1 B t v → Boxed W2 B t v := fun h => by rw [← hW2]; exact h.alloc _
  have e3 : ∀ {B t v}, Boxed W2 B t v → Boxed W3 B t v := fun h => by rw [← hW3]; exact h.alloc _
  have hO3 : W3.ownsRow (b0 + 1) 62 1 (.slice (some ⟨b0 + 1, 0, none⟩) n n) n (u32s (List.replicate n 0)) := by rw [← hW3, ← hW2, ← hW1]; exact ((HO.out.alloc _).alloc _).alloc _
  have hB3 : Below b0 w W3 := by
    rw [← hW3, ← hW2, ← hW1]
    exact ((HB1.out.alloc (by rw [Hq.out]; omega) _).alloc (by rw [World.size_alloc, Hq.out]; omega) _).alloc (by rw [World.size_alloc, World.size_alloc, Hq.out]; omega) _
  have HY3 := Lib.hid (e3 (e2 (e1 HbY.out)))
  have HQ3 := Lib.hid (e3 (e2 bQ))
  have HR3 := Lib.hid (e3 bR)
  have HS3 := Lib.hid bS
  have HO3 := Lib.hid hO3
  have HB3 := Lib.hid hB3
  have HRR := Lib.hid (H.out.1.below (by rw [Hb0.out]; exact hB3))
  have HS := Lib.hid s3
  rw [hW1, hW2, hW3]
  clear hW1 hW2 hW3 bQ bR bS e1 e2 e3 hO3 hB3 s1 s2 s3 W1 W2 HbY HO HB1 hyc hyf HR
  rw [Hq.out]
  have hg1 : b0 + 1 < q := hg1
  have HS' := HS.out
  refine (wpIn_wide (n := 6)).1 ?_
  refine wpIn_rangeFunc_ownG (n := 6) rfl (by omega) (gf := 80) (lb := #[.pointer (some ⟨q + 1 + 1, 0, none⟩)]) rfl trivial (enters_of Tryd.func80 (by kernel_rfl) rfl)
    (back_stops 5 (by omega) (q + 2) b0 A n c xs (by omega) W3 (by omega) HS3.out (by rw [← Hb0.out]; exact HRR.out)) Kept.trans (kept_b (by omega) (by omega)) (Below.refl _ _) (fun _ => rfl)
    (fun pre W => (((Boxed W b0 62 (.int .u32 (y : Int)) ∧ Boxed W q 57 (.slice (some ⟨b0 + 1, 0, none⟩) n n)) ∧ Boxed W (q + 1) 92 (.int .u64 ((drun xs y n (pre.map (·.1))).1 : Int))) ∧
      W.ownsRow (b0 + 1) 62 1 (.slice (some ⟨b0 + 1, 0, none⟩) n n) n (u32s (drun xs y n (pre.map (·.1))).2)) ∧ Below b0 w W)
    (fun _ _ _ => False)
    (OwnFrom.and (OwnFrom.and (OwnFrom.and (OwnFrom.and (Own.from (boxed_own _ _ _) _) (Own.from (boxed_own _ _ _) _)) (Own.from (boxed_own _ _ _) _)) (Own.from (row_own _ _ _ _ _ _) _)) (ownFrom_below (by rw [Hb0.out]; exact Nat.le_refl _) (by omega)))
    (fun _ _ _ _ _ hs _ _ => hs)
    ⟨⟨⟨⟨HY3.out, HQ3.out⟩, HR3.out⟩, HO3.out⟩, HB3.out⟩
    (fun x => { tmps := #[.slice A n c, .int .u32 (y : Int), undef, .pointer (some ⟨b0, 0, none⟩), .slice none 0 0, .int .u32 0, .bool false, .pointer (some ⟨q, 0, none⟩), .pointer (some ⟨q + 1, 0, none⟩), .int .i64 (x.1 : Int), .int .u32 ((xs.getD x.1 0 : Nat) : Int), undef, .int .u32 (y : Int), .bool false, .slice A n c, .int .i64 (n : Int),
      .slice (some ⟨b0 + 1, 0, none⟩) n n, .slice A n c, .func (.func 80) #[] #[.pointer (some ⟨q + 1 + 1, 0, none⟩)], .int .i64 (x.1 : Int), .int .u32 ((xs.getD x.1 0 : Nat) : Int), undef, undef, undef, undef, undef, undef, undef, undef, undef, undef, undef, undef, undef, undef, undef, undef, undef, undef, undef, undef, undef], defers := [] }) ?assign ?body ?done ?stop
  case assign =>
    intro l x W K hK
    gi_wp2
    simpa using hK
  case body =>
    rintro l pre ⟨i, hin⟩ W ⟨⟨⟨⟨b1, b2⟩, b3⟩, ho⟩, hb⟩ _
    dsimp only
    have hD := drun_snoc xs y n (pre.map (·.1)) i
    rw [show [i] = [(⟨i, hin⟩ : Pl n)].map (·.1) from rfl, ← List.map_append] at hD
    have hrl := drun_lt xs y n hy0 (pre.map (·.1))
    have hlen := drun_length xs y n (pre.map (·.1))
    generalize drun xs y n (pre.map (·.1)) = S at *
    obtain ⟨R, zs⟩ := S
    dsimp only at hrl hlen b3 ho
    have hc1 := b1.cell
    have hc2 := b2.cell
    have hc3 := b3.cell
    have hf3 := b3.frozen
    have hX := getD_lt 1000000000 (by omega) xs GX.out i
    have hq1 := quo_lt hy0 hrl hX
    have hfr := ho.frozenAt i
    have hcell : W.cell? ⟨b0 + 1, i, none⟩ = some (.int .u32 ((zs.getD i 0 : Nat) : Int)) := own_at ho (by omega)
    have HD := Lib.hid hD
    have HLEN := Lib.hid hlen
    have B1 := Lib.hid b1
    have B2 := Lib.hid b2
    have B3 := Lib.hid b3
    have HO := Lib.hid ho
    have HB := Lib.hid hb
    clear hD hlen b1 b2 b3 ho hb
    generalize hXX : xs.getD i 0 = X at *
    have HX := Lib.hid hXX
    clear hXX
    gi_wp2
    have hcast : (R : Int) * 1000000000 + (X : Int) = ((R * 1000000000 + X : Nat) : Int) := by simp
    have HT := Lib.hid (show dstep xs y (R, zs) i = ((R * 1000000000 + X) % y, zs.set i ((R * 1000000000 + X) / y)) from by rw [dstep, HX.out])
    have hTb : R * 1000000000 + X ≤ 4294967296000000000 := by omega
    rw [hcast]
    clear hcast
    generalize R * 1000000000 + X = T at *
    clear hTb
    generalize hQ : T / y = Q at *
    have hwy : IntKind.u64.wrap (y : Int) = (y : Int) := IntWalk.u64_in _ (by omega)
    have hwd : IntKind.u64.wrap ((T : Int) / (y : Int)) = (Q : Int) := by
      rw [IntWalk.up_div rfl rfl, hQ]; exact IntWalk.u64_in _ (by omega)
    have hwr : IntKind.u32.wrap (Q : Int) = (Q : Int) := IntWalk.u32_in _ (by omega)
    clear hQ
    have hyI : ¬ ((y : Int) = 0) := by omega
    have hfin := small_round (w := w) (W := W) (i := i) (B := W3.heap.size) (T := (T : Int) % (y : Int)) hg1 Q rfl B1.out B2.out _ B3.out HO.out HB.out
    have hfin2 : (drun xs y n (List.map (fun x => x.val) (pre ++ [⟨i, hin⟩]))) = (T % y, zs.set i Q) := HD.out.trans HT.out
    have HF := Lib.hid hfin
    have HF2 := Lib.hid hfin2
    clear hfin hfin2
    have hmx : Tryd.prog.follows .mixedOrders = true := by kernel_rfl
    rename_i _ _ _ a2 _ _ _ a0
    have A2 := Lib.hid a2
    have A0 := Lib.hid a0
    have hwS : W.drew.cell? ⟨q, 0, none⟩ = some (.slice (some ⟨b0 + 1, 0, none⟩) n n) ∧ W.drew.cell? ⟨b0, 0, none⟩ = some (.int .u32 (y : Int)) := ⟨hc2, hc1⟩
    have hlt : (i : Int) < (n : Int) := by omega
    have hyN : ¬ (y = 0) := by omega
    clear a2 a0
    clear H GX HL Hb0 Hq HY3 HQ3 HR3 HS3 HO3 HB3 HRR HS HD HLEN B1 B2 B3 HO HB HX HT hi hz0 hz1 hz2 hrl hX hn HS'
    refine wpIn_region_held (S := fun w' => w'.cell? ⟨q, 0, none⟩ = some (.slice (some ⟨b0 + 1, 0, none⟩) n n) ∧ w'.cell? ⟨b0, 0, none⟩ = some (.int .u32 (y : Int))) (by kernel_rfl) (by kernel_rfl) hwS ?_
    intro hHeld
    refine' wpAnyH_take (i := 0) (v := _) rfl (by kernel_rfl) (by kernel_rfl) (by kernel_rfl) (fun _ _ _ h => h) (Or.inl ⟨by rfl, ?yh1⟩) hHeld ?rh1
    case yh1 =>
      intro w hSw
      obtain ⟨hS1, hS2⟩ := hSw
      go_simp
      try with_reducible rfl
    try simp only [Act.put, List.setIfInBounds_toArray]
    refine' wpAnyH_take (i := 1) (v := _) rfl (by kernel_rfl) (by kernel_rfl) (by kernel_rfl) (fun _ _ _ h => h) (Or.inl ⟨by rfl, ?yh2⟩) hHeld ?rh2
    case yh2 =>
      intro w hSw
      obtain ⟨hS1, hS2⟩ := hSw
      go_simp
      try with_reducible rfl
    try simp only [Act.put]
    refine' wpAnyH_take (i := 2) (v := _) rfl (by kernel_rfl) (by kernel_rfl) (by kernel_rfl) (fun _ _ _ h => h) (Or.inl ⟨by rfl, ?yh3⟩) hHeld ?rh3
    case yh3 =>
      intro w hSw
      obtain ⟨hS1, hS2⟩ := hSw
      go_simp
      try with_reducible rfl
    try simp only [Act.put]
    refine' wpAnyH_take (i := 3) (v := _) rfl (by kernel_rfl) (by kernel_rfl) (by kernel_rfl) (fun _ _ _ h => h) (Or.inl ⟨by rfl, ?yh4⟩) hHeld ?rh4
    case yh4 =>
      intro w hSw
      obtain ⟨hS1, hS2⟩ := hSw
      go_simp
      try with_reducible rfl
    try simp only [Act.put]
    refine' wpAnyH_take (i := 4) (v := _) rfl (by kernel_rfl) (by kernel_rfl) (by kernel_rfl) (fun _ _ _ h => h) (Or.inl ⟨by rfl, ?yh5⟩) hHeld ?rh5
    case yh5 =>
      intro w hSw
      obtain ⟨hS1, hS2⟩ := hSw
      go_simp
      try with_reducible rfl
    try simp only [Act.put]
    refine' wpAnyH_take (i := 5) (v := _) rfl (by kernel_rfl) (by kernel_rfl) (by kernel_rfl) (fun _ _ _ h => h) (Or.inl ⟨by rfl, ?yh6⟩) hHeld ?rh6
    case yh6 =>
      intro w hSw
      obtain ⟨hS1, hS2⟩ := hSw
      go_simp
      try with_reducible rfl
    try simp only [Act.put]
    refine' wpAnyH_take (i := 6) (v := _) rfl (by kernel_rfl) (by kernel_rfl) (by kernel_rfl) (fun _ _ _ h => h) (Or.inl ⟨by rfl, ?yh7⟩) hHeld ?rh7
    case yh7 =>
      intro w hSw
      obtain ⟨hS1, hS2⟩ := hSw
      go_simp
      try with_reducible rfl
    try simp only [Act.put]
    refine' wpAnyH_take (i := 7) (v := _) rfl (by kernel_rfl) (by kernel_rfl) (by kernel_rfl) (fun _ _ _ h => h) (Or.inl ⟨by rfl, ?yh8⟩) hHeld ?rh8
    case yh8 =>
      intro w hSw
      obtain ⟨hS1, hS2⟩ := hSw
      go_simp
      try with_reducible rfl
    try simp only [Act.put]
    refine wpAnyH_ready (rs := [8]) (by kernel_rfl) (by simp) ?_
    refine AllReadyH.cons rfl (fun K hK => ?_) ?_
    · go_simp
      refine hK.out _ _ ?_ (fun hHeld => ?_)
      · exact ⟨(World.cell?_setCell_far _ ⟨b0 + 1, i, none⟩ ⟨q, 0, none⟩ _ (by simp; omega)).trans hHeld.1, (World.cell?_setCell_far _ ⟨b0 + 1, i, none⟩ ⟨b0, 0, none⟩ _ (by simp)).trans hHeld.2⟩
      clear hK K
      try simp only [Act.put, List.setIfInBounds_toArray, List.set_cons_zero, List.set_cons_succ]
      refine wpAnyH_done (by kernel_rfl) ?_ _
      refine Calm.normal ?_
      clear hwy hwd hwr hcell hHeld hlt hyN
      have a0 := A0.out
      have a2 := A2.out
      gi_wp2
      refine ⟨HF.out.1, HF.out.2.1, ?_⟩
      dsimp only
      rw [HF2.out]
      dsimp only
      rw [Int.natCast_emod]
      exact HF.out.2.2
    exact AllReadyH.nil
  case done =>
    rintro D ys W hD hys ⟨⟨⟨⟨b1, b2⟩, b3⟩, ho⟩, hb⟩ hK
    rw [hys] at b3 ho
    obtain ⟨hz1', hz2', hz3'⟩ := drun_all xs y n hy0 GX.out HL.out
    have hzl := drun_length xs y n (downTo n n)
    generalize drun xs y n (downTo n n) = S at *
    obtain ⟨R, zs⟩ := S
    dsimp only at hz1' hz2' hz3' hzl b3 ho
    subst hz3'
    have hc2 := b2.cell
    have hc3 := b3.cell
    have hDg := (Array.getElem?_eq_some_iff.1 hK).1
    have HK := Lib.hid hK
    have HO := Lib.hid ho
    have HB := Lib.hid hb
    have HQ2 := Lib.hid b2
    have HQ3' := Lib.hid b3
    have HZ1 := Lib.hid hz1'
    have HZ2 := Lib.hid hz2'
    clear hys hK ho hb b1 b2 b3 hz1' hz2'
    go_wp2
    have hown3 : OwnS W.drew (b0 + 1) (some ⟨b0 + 1, 0, none⟩) n n zs := ⟨HO.out, by omega, fun z hz => by have := HZ1.out z hz; omega⟩
    have CT := trim_c _ _ n zs W.drew hown3.limbs (by omega)
    rw [trim_eq_digs 1000000000 (by omega) _ HZ1.out, HZ2.out] at CT
    have HCT := Lib.hid CT
    have hR9 := Nat.mod_lt (val 1000000000 xs) hy0
    clear CT hown3
    generalize hRe : val 1000000000 xs % y = R at *
    have HRe := Lib.hid hRe
    clear hRe
    have hwr : IntKind.u32.wrap (R : Int) = (R : Int) := IntWalk.u32_in _ (by omega)
    refine wp_region_noPanic ?_
    go_region_with (go_at_call 54; refine HCT.out.mono ?_; rintro e w5 ⟨A5, m5, c5, rfl, ho5, hb5⟩; have hc5 : w5.cell? ⟨q + 1, 0, none⟩ = some (.int .u64 (R : Int)) := (hb5.cell (p := ⟨q + 1, 0, none⟩) HQ3'.out.lt).trans hc3; have HO5 := Lib.hid ho5; have HB5 := Lib.hid hb5; clear ho5 hb5 HCT)
    all_goals refine NoPanic.normal ?_
    all_goals clear hwr
    all_goals go_wp2
    all_goals
      have HK5 : w5.heap[D]? = some (.deferred (some [])) := (HB5.out.block D hDg).trans HK.out
      have hle : b0 ≤ W.drew.heap.size := by have := HB.out.size; have := Hb0.out; show b0 ≤ W.heap.size; omega
      refine ⟨by simp, .inl ⟨_, _, rfl, run_takeDeferred HK5, ?_⟩⟩
      refine ⟨_, results_tmp3 rfl _ _ _, A5, m5, c5, by rw [HRe.out]; rfl, ?_, ?_⟩
      · rw [Hb0.out]
        exact ⟨ownsRow_putObj (HO5.out.weaken hle).1 _ HK5 rfl, (HO5.out).2⟩
      · rw [Hb0.out]
        exact (HB.out.drew.trans (HB5.out.mono hle)).trans (belowK_b (w := W3) (by omega) _ D _ _ hD HK5 rfl rfl)
  case stop =>
    rintro D c pre W _ _ h _
    exact h.elim
end Go.Proofs.YtkfjombeaidimaaDoor
/- Div3 -/
namespace Go.Proofs.YtkfjombeaidimaaDoor
open Go.RowKit
end Go.Proofs.YtkfjombeaidimaaDoor
/- Div4 -/
namespace Go.Proofs.YtkfjombeaidimaaDoor
open Go.RowKit
theorem own_one (w : World) (X : Nat) (E : Int) (hE : E = (X : Int)) : (w.alloc (.cells #[.int .u32 E] 62)).ownsRow w.heap.size 62 1 (.slice (some ⟨w.heap.size, 0, none⟩) 1 1) 1 (u32s [X]) := by
  subst hE
  exact own_of_blk (World.alloc_heap_new w _) (Nat.le_refl _) rfl (by unfold maxLen; omega)
theorem limbs_of_reads {w : World} {g n : Nat} {A : Option Addr} {xs : List Nat} (h : Reads w g 1 A n (u32s xs)) (hg : g ≤ w.heap.size) (hn : n ≤ 36000000000000) (hx : ∀ x ∈ xs, x < 1000000000) : Limbs w A n xs :=
  ⟨h.more hg, hn, fun x h' => by have := hx x h'; omega⟩
theorem own_lt {w : World} {base e size g n c : Nat} {xs : List Value} (h : w.ownsRow base e size (.slice (some ⟨g, 0, none⟩) n c) n xs) : g < w.heap.size := by
  rcases h.2 with ⟨h', _⟩ | ⟨g', cap', cur, h', _, hgb, _⟩
  · simp at h'
  · simp only [Value.slice.injEq, Option.some.injEq, Addr.mk.injEq, and_true, true_and] at h'
    obtain ⟨rfl, _⟩ := h'
    exact (Array.getElem?_eq_some_iff.1 hgb).1
theorem own_setCell_other {w : World} {base n g j : Nat} {e : TypeId} {v u : Value} {xs : List Value} (h : w.ownsRow base e 1 v n xs) (hg : g < base) : (w.setCell ⟨g, j, none⟩ u).ownsRow base e 1 v n xs := by
  refine ⟨h.1, ?_⟩
  rcases h.2 with h' | ⟨g', cap', cur, h1, h2, h3, h4⟩
  · exact .inl h'
  · refine .inr ⟨g', cap', cur, h1, h2, ?_, h4⟩
    rw [Below.heap_setCell _ _ _ g' (Nat.ne_of_gt (Nat.lt_of_lt_of_le hg h2))]
    exact h3
theorem OwnS.setCell_other {w : World} {base m c g j : Nat} {A : Option Addr} {u : Value} {ys : List Nat} (h : OwnS w base A m c ys) (hg : g < base) : OwnS (w.setCell ⟨g, j, none⟩ u) base A m c ys := ⟨own_setCell_other h.1 hg, h.2⟩
/-- Where a long division stands, k limbs of the first number being left. -/
structure LongAt (X Y N k : Nat) (rs zs : List Nat) : Prop where
  len : zs.length = N
  lt : ∀ z ∈ zs, z < 1000000000
  zero : ∀ j, j < k → zs.getD j 0 = 0
  rest : val 1000000000 rs < Y
  restLt : ∀ r ∈ rs, r < 1000000000
  eq : X = Y * val 1000000000 zs + 1000000000 ^ k * val 1000000000 rs + val 1000000000 ((digs 1000000000 X).take k)
theorem LongAt.next {X Y N k : Nat} {rs zs : List Nat} (h : LongAt X Y N (k + 1) rs zs) (hk : k < N) :
    val 1000000000 ((digs 1000000000 X).getD k 0 :: rs) < 1000000000 * Y ∧ (∀ x ∈ (digs 1000000000 X).getD k 0 :: rs, x < 1000000000) ∧
      val 1000000000 ((digs 1000000000 X).getD k 0 :: rs) / Y < 1000000000 ∧
      LongAt X Y N k (digs 1000000000 (val 1000000000 ((digs 1000000000 X).getD k 0 :: rs) % Y)) (zs.set k (val 1000000000 ((digs 1000000000 X).getD k 0 :: rs) / Y)) := by
  have hx := getD_lt 1000000000 (by omega) (digs 1000000000 X) (digs_lt 1000000000 (by omega) X) k
  have hv := val_take_succ 1000000000 (digs 1000000000 X) k
  have he := h.eq
  rw [hv, Nat.pow_succ] at he
  have hr := h.rest
  have hs := val_set 1000000000 zs k (val 1000000000 ((digs 1000000000 X).getD k 0 :: rs) / Y) (by rw [h.len]; omega)
  rw [h.zero k (by omega), Nat.mul_zero, Nat.add_zero] at hs
  have hc : ∀ d, val 1000000000 (d :: rs) = val 1000000000 rs * 1000000000 + d := fun d => by simp only [val]; omega
  have h1 := step_lt hr hx
  rw [← hc] at h1
  have hy0 : 0 < Y := by omega
  have hq : val 1000000000 ((digs 1000000000 X).getD k 0 :: rs) / Y < 1000000000 := by rw [Nat.div_lt_iff_lt_mul hy0]; omega
  refine ⟨h1, ?_, hq, ⟨by simpa using h.len, ?_, ?_, ?_, digs_lt 1000000000 (by omega) _, ?_⟩⟩
  · intro x hx'
    rcases List.mem_cons.1 hx' with rfl | hx'
    · exact hx
    · exact h.restLt x hx'
  · intro z hz
    rcases List.mem_or_eq_of_mem_set hz with hz | hz
    · exact h.lt z hz
    · rw [hz]; exact hq
  · intro j hj
    rw [getD_set_ne _ _ _ _ (by omega)]
    exact h.zero j (by omega)
  · rw [val_digs 1000000000 (by omega)]
    exact Nat.mod_lt _ hy0
  · rw [hs, val_digs 1000000000 (by omega)]
    exact long_step he (hc _)
end Go.Proofs.YtkfjombeaidimaaDoor
/- Div5 -/
namespace Go.Proofs.YtkfjombeaidimaaDoor
open Go.RowKit
theorem all_good {xs : List Nat} (h : ∀ x ∈ xs, x < 1000000000) : (xs.all fun x => decide (x ≤ 999999999)) = true := by
  rw [List.all_eq_true]
  intro x hx
  have := h x hx
  simp
  omega
theorem ownS_nil (w : World) (base : Nat) : OwnS w base none 0 0 [] := ⟨World.ownsRow_nil _ _ _ _, by omega, by simp⟩
end Go.Proofs.YtkfjombeaidimaaDoor
