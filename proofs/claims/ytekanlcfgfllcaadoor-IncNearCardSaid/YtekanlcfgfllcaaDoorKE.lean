/-
  KE: Round, Div1, Div2, Div3, Div4, Div5.
-/
import Derived.Deep.RegionHeld3
import Derived.Deep.AppendLies
import Derived.OrdersIn
import Derived.RangeFuncCalls
import Derived.RangeFuncNested
import Derived.Shelf.Abstract
import Derived.RangeFuncBox
import Derived.RangeFuncLeaves
import Derived.IntWalk
import Derived.Shelf.RegionOpen
import Derived.OwnWalkIn
import Derived.TacticsInMore
import Derived.LoopNIn
import Derived.LoopIn
import Derived.Test.YtekanlcfgfllcaaDoorRows
import Derived.Test.YtekanlcfgfllcaaDoorKA
import Derived.Test.YtekanlcfgfllcaaDoorKC
import Derived.Test.YtekanlcfgfllcaaDoorKD
/- Round -/
/-
  A region that draws its order, in a round of a range over a function: by the laws for regions elsewhere.
-/
set_option maxRecDepth 100000
namespace Go.Proofs.YtekanlcfgfllcaaDoor
open Go.RowKit Go.Shelf
/-- Q, but neither a panic nor an end for want of room. -/
def Calm (Q : Exit → Act → World → Prop) : Exit → Act → World → Prop
  | .panic _, _, _ => False
  | .outgrown, _, _ => False
  | e, a, w => Q e a w
theorem Calm.imp {Q : Exit → Act → World → Prop} : ∀ (e : Exit) (a : Act) (w : World), Calm Q e a w → Q e a w := fun e a w h => by
  cases e <;> first | exact h | exact (h : False).elim
theorem Calm.normal {Q : Exit → Act → World → Prop} {a : Act} {w : World} (h : Q .normal a w) : Calm Q .normal a w := h
theorem Calm.lets {Q : Exit → Act → World → Prop} (h : LetsOut (Calm Q)) : False := by
  obtain ⟨a, w, h⟩ := h
  exact h
/-- Not a defer statement. -/
def noDefer (o : Oper) : Bool := match o.op with | .defer _ => false | _ => true
theorem noDefer_spec {o : Oper} (h : noDefer o = true) (c : Call) : o.op ≠ .defer c := fun e => by simp [noDefer, e] at h
section
variable {P : Program} {ops : Array Oper} {Q : Exit → Act → World → Prop} {md : Region.Mode} {l n : Nat}
theorem oper_in {o : Oper} {a : Act} {w : World} {K : Act → World → Prop} (hd : noDefer o = true) (h : o.wp P a w K (Calm Q)) : o.wpIn (Fence.wide.inRound l) n P a w K (Calm Q) := by
  refine ⟨fun _ _ => trivial, ?_⟩
  rw [Oper.semAt_eq _ _ _ (noDefer_spec hd)]
  unfold Oper.wp at h
  generalize (execOp a.eval o).run P w = r at *
  cases r with
  | ok x w' =>
    cases x <;> simp only [Oper.upon, Oper.uponIn] at h ⊢
    case value => exact h
    case skip => exact h
    case defer => exact h
    case enter f args => exact ⟨fun hh => (by cases hh), (callsIn_wide (n := n - 1)).2 (h.mono fun e w'' he => by cases e <;> exact he)⟩
    case row row args => exact ⟨fun hh => (by cases hh), fun c cs _ => let ⟨v, w'', r, s⟩ := h c cs; ⟨v, w'', r, stepsIn_wide.2 s⟩⟩
  | halt x w' => cases x <;> simp only [Oper.upon, Oper.uponIn] at h ⊢; exact h
theorem any_in (hd : ∀ (i : Nat) (o : Oper), ops[i]? = some o → noDefer o = true) : ∀ (fuel : Nat) (listed : Array Bool) (a : Act) (w : World),
    wpAny P md ops (Calm Q) fuel listed a w → wpAnyIn (Fence.wide.inRound l) n P md ops (Calm Q) fuel listed a w
  | 0, _, _, _, h => h
  | fuel + 1, listed, a, w, h => by
    refine ⟨h.1, fun i hi => ?_⟩
    have h1 := h.2 i hi
    unfold wpOp at h1
    unfold wpOpIn
    split
    · rename_i ho
      simp only [ho] at h1
      exact any_in hd fuel _ _ _ h1
    · rename_i o ho
      simp only [ho] at h1
      split
      · rename_i hw
        simp only [hw, if_true] at h1
        rcases h1 with h1 | ⟨_, h1⟩
        · exact Oper.wpIn_mono (fun a w h2 => any_in hd fuel _ a w h2) (oper_in (hd i o ho) h1)
        · exact (Calm.lets h1).elim
      · rename_i hw
        simp only [hw] at h1
        exact ⟨fun _ _ => trivial, any_in hd fuel _ _ _ h1⟩
/-- THE BEGINNING, in a round. -/
theorem wpIn_region_held {id : Nat} {l0 : List Oper} {S : World → Prop} {a : Act} {w : World} (hm : P.follows .mixedOrders = true) (hd : (l0.all noDefer) = true) (hS : S w.drew)
    (h : S w.drew → wpAnyH P .any l0.toArray (Calm Q) S l0.toArray.size (Array.replicate l0.toArray.size false) a w.drew) : (Code.region id l0.toArray true).wpIn (Fence.wide.inRound l) n P Q a w := by
  refine wpIn_mono (wpIn_region_any (Q := Calm Q) hm (any_in (fun i o ho => ?_) _ _ _ _ (wpAny_of_held _ _ _ _ (h hS)))) Calm.imp
  refine List.all_eq_true.1 hd o (List.mem_of_getElem? (i := i) ?_)
  simpa using ho
end
end Go.Proofs.YtekanlcfgfllcaaDoor
/- Div1 -/
namespace Go.Proofs.YtekanlcfgfllcaaDoor
open Go.RowKit Go.Shelf
attribute [local go_sem] Oper.semAt_some
/-- What a round of a loop backwards keeps: what lay below g, and the iterator's own box. -/
def Kept (g Bs : Nat) (W W' : World) : Prop := Below g W W' ∧ W'.heap[Bs]? = W.heap[Bs]?
theorem Kept.trans {g Bs : Nat} {A B C : World} (h : Kept g Bs A B) (k : Kept g Bs B C) : Kept g Bs A C := ⟨h.1.trans k.1, k.2.trans h.2⟩
theorem kept_b {g Bs : Nat} {w : World} (hn : g ≤ w.heap.size) (hB : Bs < w.heap.size) (W : World) (l : Nat) (o o' : Obj) (hl : w.heap.size ≤ l) (h : W.heap[l]? = some o) (h1 : o.isCells = false) (h2 : o.isWalk = false) : Kept g Bs W (W.putObj l o') :=
  ⟨belowK_b hn W l o o' hl h h1 h2, World.putObj_heap_other (by omega)⟩
/-- A place in a slice of n. -/
abbrev Pl (n : Nat) := {i : Nat // i < n}
set_option maxRecDepth 100000 in
set_option maxHeartbeats 2000000 in
/-- slices.Backward's closure. -/
theorem back1_c (F : Fence) (m : Nat) (hF : F.fn 87) (hro : F.round = none) (hm : 1 ≤ m) (l Bs g : Nat) (A : Option Addr) (n c : Nat) (xs : List Nat) (hn : n ≤ 1000000000)
    (J Jx : List (Pl n) → World → Prop)
    (hY : ∀ pre x W, J pre W → pre.length < n → YieldAt F (m - 1) Tryd.prog l #[.int .i64 (x.1 : Int), .int .u32 ((xs.getD x.1 0 : Nat) : Int)] W fun e W' =>
      (e = .returned (.bool true) ∧ J (pre ++ [x]) W' ∧ Kept g Bs W W') ∨ (e = .returned (.bool false) ∧ Jx (pre ++ [x]) W'))
    (W : World) (hBs : Boxed W Bs 39 (.slice A n c)) (hR : Reads W g 1 A n (u32s xs)) (h0 : J [] W) :
    CallsIn F m Tryd.prog 87 #[.func (.yield l) #[] #[], .pointer (some ⟨Bs, 0, none⟩)] W fun e W' => (∃ v, e = .returned v) ∧
      ((∃ ys, ys.map (·.1) = downTo n n ∧ J ys W') ∨ (∃ pre, True ∧ Jx pre W')) := by
  have HR := Lib.hid hR
  have hcs := Lib.hid hBs
  have hbs0 := hBs.cell
  clear hR hBs
  refine callsIn_of_wp Tryd.func87 rfl hF ?_ hro
  simp only [Tryd.ntmps87, List.size_toArray, List.length_cons, List.length_nil, Nat.reduceAdd, Nat.reduceSub, Array.replicate_succ, Array.replicate_zero, List.push_toArray, List.append_toArray, List.nil_append, List.cons_append]
  gi_wp2
  gi_loopw [3] (fun i wr => ∃ (z : Int) (k : Nat) (pre : List (Pl n)), k ≤ n ∧ z = (n : Int) - 1 - (k : Int) ∧ i = .int .i64 z ∧ pre.map (·.1) = downTo n k ∧ J pre wr ∧ Kept g Bs W wr)
    (fun i _ => (intOf i + 1).toNat)
  case atStart => exact ⟨_, 0, [], Nat.zero_le _, by omega, rfl, rfl, h0, Below.refl _ _, rfl⟩
  case round =>
    obtain ⟨z, k, pre, hk, hz, rfl, hpre0, hJs, hnx0⟩ := hrel
    have HP := Lib.hid hpre0
    have HB := Lib.hid hnx0
    have hbs : wr.cell? ⟨Bs, 0, none⟩ = some (.slice A n c) := Boxed.cell (hnx0.2.trans hcs.out)
    clear hpre0 hnx0 hbs0
    by_cases hlt : k < n
    · obtain ⟨i, hi⟩ : ∃ i : Nat, i = n - 1 - k := ⟨_, rfl⟩
      obtain rfl : z = (i : Int) := by omega
      have hin : i < n := by omega
      have HI := Lib.hid hi
      clear hz hi
      have hlen : pre.length < n := by
        have := congrArg List.length HP.out
        simp [downTo] at this
        omega
      obtain ⟨ad, rfl, hb, hc⟩ := reads_at (HR.out.below HB.out.1) hin
      obtain ⟨fn, tmps, assign, body, hy, hRo⟩ := hY pre ⟨i, hin⟩ wr hJs hlen
      dsimp only at hy
      generalize xs.getD i 0 = X at hc hy
      gi_wp2
      refine hRo.mono ?_
      rintro e W3 (⟨rfl, hJ3, hk3⟩ | ⟨rfl, hJx3⟩)
      · have HB3 := Lib.hid (HB.out.trans hk3)
        clear hk3
        gi_wp2
        go_roundw
        case rel => exact ⟨_, k + 1, pre ++ [⟨i, hin⟩], by omega, by have := HI.out; omega, rfl, by rw [downTo_succ, List.map_append, HP.out, ← HI.out]; rfl, hJ3, HB3.out⟩
        case measure => simp [intOf]
      · gi_wp2
        refine bodyPost_ret (results_none rfl _ _ _) rfl ?_
        exact ⟨⟨_, rfl⟩, .inr ⟨_, trivial, hJx3⟩⟩
    · obtain rfl : k = n := by omega
      obtain rfl : z = -1 := by omega
      clear hz
      gi_wp2
      go_end0
      exact ⟨⟨_, rfl⟩, .inl ⟨_, HP.out, hJs⟩⟩
/-- slices.Backward(s) hands back a value that goes through all places from above. -/
theorem back_stops (m : Nat) (hm : 1 ≤ m) (Bs g : Nat) (A : Option Addr) (n c : Nat) (xs : List Nat) (hn : n ≤ 1000000000) (w : World) (hg : g ≤ w.heap.size) (hBs : Boxed w Bs 39 (.slice A n c)) (hR : Reads w g 1 A n (u32s xs)) :
    SeqStopsK Fence.wide m Tryd.prog 87 #[.pointer (some ⟨Bs, 0, none⟩)] (fun x : Pl n => #[Value.int .i64 (x.1 : Int), .int .u32 ((xs.getD x.1 0 : Nat) : Int)]) (Kept g Bs)
      (fun ys => ys.map (·.1) = downTo n n) (fun _ => True) n w := fun l J Jx W hW _ _ hY h0 =>
  back1_c Fence.wide m trivial rfl hm l Bs g A n c xs hn J Jx hY W ((hW.block Bs hBs.lt).trans hBs) (hR.below (hW.mono hg)) h0
set_option maxHeartbeats 1000000 in
theorem backward_c (A : Option Addr) (n c : Nat) (w : World) :
    Calls Tryd.prog 66 #[.slice A n c] w fun e w' => e = .returned (.func (.func 87) #[] #[.pointer (some ⟨w.heap.size, 0, none⟩)]) ∧ w.alloc (.cells #[.slice A n c] 39) = w' := by
  go_enter Tryd.func66, Tryd.ntmps66
  go_wp2
  go_ret
  exact ⟨rfl, rfl⟩
end Go.Proofs.YtekanlcfgfllcaaDoor
/- Div2 -/
namespace Go.Proofs.YtekanlcfgfllcaaDoor
open Go.RowKit Go.Shelf
attribute [local go_sem] Oper.semAt_some
theorem wpIn_hide' {F : Fence} {n : Nat} {P : Program} {c : Code} {Q : Exit → Act → World → Prop} {a : Act} {w : World}
    (h : ∀ Q' : Exit → Act → World → Prop, (∀ e a w, Q e a w → Q' e a w) → c.wpIn F n P Q' a w) : c.wpIn F n P Q a w := h Q (fun _ _ _ q => q)
theorem row_own {β : Type} (base : Nat) (e : TypeId) (size : Nat) (v : Value) (k : Nat) (f : β → List Value) : Own (fun s W => W.ownsRow base e size v k (f s)) := by
  rintro s X Y row hr hg hrow
  refine hr.kept hg ?_
  rcases hr.2 with ⟨rfl, _⟩ | ⟨g, cap, cur, rfl, _, hgb, _⟩
  · exact .inl rfl
  · refine .inr fun e' => ?_
    obtain ⟨o, ho, hc⟩ := hrow g (by simpa [Value.ownBlock] using e'.symm)
    rw [hgb] at ho; cases ho; cases hc
theorem downTo_of {n : Nat} {ys : List (Pl n)} {js : List Nat} (h : ys.map (·.1) = js) {xs : List Nat} {y : Nat} : ys.foldl (fun s (i : Pl n) => dstep xs y s i.1) (0, List.replicate n 0) = drun xs y n js := by
  rw [drun, ← h, List.foldl_map]
theorem small_round {w W : World} {b0 q n i B : Nat} {y T Q : Int} {zs : List Nat} (hq : b0 + 1 < q) (Qn : Nat) (hQ : Q = (Qn : Int))
    (b1 : Boxed W b0 49 (.int .u32 y)) (b2 : Boxed W q 39 (.slice (some ⟨b0 + 1, 0, none⟩) n n)) (R : Value) (b3 : Boxed W (q + 1) 88 R)
    (ho : W.ownsRow (b0 + 1) 49 1 (.slice (some ⟨b0 + 1, 0, none⟩) n n) n (u32s zs)) (hb : Below b0 w W) :
    KeepsFrom B W ((W.setCell ⟨b0 + 1, i, none⟩ (.int .u32 Q)).setCell ⟨q + 1, 0, none⟩ (.int .u64 T)).drew ∧ Kept b0 (q + 2) W ((W.setCell ⟨b0 + 1, i, none⟩ (.int .u32 Q)).setCell ⟨q + 1, 0, none⟩ (.int .u64 T)).drew ∧
    (((Boxed ((W.setCell ⟨b0 + 1, i, none⟩ (.int .u32 Q)).setCell ⟨q + 1, 0, none⟩ (.int .u64 T)).drew b0 49 (.int .u32 y) ∧ Boxed ((W.setCell ⟨b0 + 1, i, none⟩ (.int .u32 Q)).setCell ⟨q + 1, 0, none⟩ (.int .u64 T)).drew q 39 (.slice (some ⟨b0 + 1, 0, none⟩) n n)) ∧
      Boxed ((W.setCell ⟨b0 + 1, i, none⟩ (.int .u32 Q)).setCell ⟨q + 1, 0, none⟩ (.int .u64 T)).drew (q + 1) 88 (.int .u64 T)) ∧
      ((W.setCell ⟨b0 + 1, i, none⟩ (.int .u32 Q)).setCell ⟨q + 1, 0, none⟩ (.int .u64 T)).drew.ownsRow (b0 + 1) 49 1 (.slice (some ⟨b0 + 1, 0, none⟩) n n) n (u32s (zs.set i Qn))) ∧
      Below b0 w ((W.setCell ⟨b0 + 1, i, none⟩ (.int .u32 Q)).setCell ⟨q + 1, 0, none⟩ (.int .u64 T)).drew := by
  subst hQ
  have k1 : ∀ k, k ≠ b0 + 1 → (W.setCell ⟨b0 + 1, i, none⟩ (.int .u32 (Qn : Int))).heap[k]? = W.heap[k]? := fun k hk => Below.heap_setCell _ _ _ k (fun e => hk e)
  have hr := (ho.stored i (.int .u32 (Qn : Int))).1
  rw [← u32s_set] at hr
  have hb' : ∀ {a : World}, Below b0 a W → Below b0 a ((W.setCell ⟨b0 + 1, i, none⟩ (.int .u32 (Qn : Int))).setCell ⟨q + 1, 0, none⟩ (.int .u64 T)).drew := fun h =>
    ((h.setCell (p := ⟨b0 + 1, i, none⟩) (Nat.le_succ b0) _).setCell (p := ⟨q + 1, 0, none⟩) (Nat.le_of_lt (by omega : b0 < q + 1)) _).drew
  have b3' : Boxed (W.setCell ⟨b0 + 1, i, none⟩ (.int .u32 (Qn : Int))) (q + 1) 88 R := (k1 _ (by omega)).trans b3
  refine ⟨((KeepsOthers.setCell _ _ _).trans ((KeepsOthers.setCell _ _ _).trans (KeepsOthers.drew _))).from _, ⟨hb' (Below.refl _ _), ?_⟩, ⟨⟨⟨?_, ?_⟩, b3'.set _⟩, ?_⟩, hb' hb⟩
  · exact (Below.heap_setCell _ _ _ (q + 2) (show q + 2 ≠ q + 1 by omega)).trans (k1 _ (by omega))
  · exact Boxed.other ((k1 _ (Nat.ne_of_lt (Nat.lt_succ_self b0))).trans b1) (by omega) _
  · exact Boxed.other ((k1 _ (by omega)).trans b2) (by omega) _
  · have hk := hr.kept (grownBy_setCell' (W.setCell ⟨b0 + 1, i, none⟩ (.int .u32 (Qn : Int))) (q + 1) (.int .u64 T)) (.inr (by intro e; injection e with e; change b0 + 1 = q + 1 at e; omega))
    exact hk
set_option maxHeartbeats 1000000 in
theorem divSmall_zero (A : Option Addr) (n c : Nat) (w : World) :
    Calls Tryd.prog 49 #[.slice A n c, .int .u32 0] w fun e w' => e = .returned (.tuple #[.slice none 0 0, .int .u32 0, .bool false]) ∧ Below w.heap.size w w' := by
  go_enter Tryd.func49, Tryd.ntmps49
  go_wp2
  go_ret3
  exact ⟨rfl, (Below.refl _ _).alloc (Nat.le_refl _) _⟩
set_option maxHeartbeats 2000000 in
set_option maxRecDepth 100000 in
theorem divSmall_c (A : Option Addr) (n c : Nat) (xs : List Nat) (y : Nat) (w : World) (h : Limbs w A n xs) (gx : ∀ x ∈ xs, x < 1000000000) (hn : n ≤ 900000000) (hy0 : 0 < y) (hy : y < 1000000000) :
    Calls Tryd.prog 49 #[.slice A n c, .int .u32 (y : Int)] w fun e w' => ∃ A' m' c', e = .returned (.tuple #[.slice A' m' c', .int .u32 ((val 1000000000 xs % y : Nat) : Int), .bool true]) ∧
      OwnS w' w.heap.size A' m' c' (digs 1000000000 (val 1000000000 xs / y)) ∧ Below w.heap.size w w' := by
  obtain ⟨i0, hi, hz0, hz1, hz2⟩ := info_parts u32_info
  have hyb : ((y : Int) == 0) = false := by simp; omega
  have H := Lib.hid h
  have GX := Lib.hid gx
  have HL := Lib.hid h.len
  clear h gx
  refine callsIn_wide.1 (callsIn_of_wp_marks (n := 6) Tryd.func49 rfl trivial ?_ rfl)
  refine wpIn_wide.2 ?_
  simp only [Tryd.ntmps49, List.size_toArray, List.length_cons, List.length_nil, Nat.reduceAdd, Nat.reduceSub, Array.replicate_succ, Array.replicate_zero, List.push_toArray, List.append_toArray, List.nil_append, List.cons_append]
  have HB0 := Lib.hid ((Below.refl w.heap.size w).alloc (Nat.le_refl _) (.cells #[.int .u32 (y : Int)] 49))
  go_wp2_with (at_make; refine wpList_make_full _ rfl _ _ 39 rfl (w.heap.size + 1) 49 i0 (.int .u32 0) 1 Tryd.underlying39 hi hz0 hz1 _ _ _ _ n rfl rfl ?b0 ?b1 ?b2 ?b3 ?b4 ?_)
  case b0 => omega
  case b1 => omega
  case b2 => rw [hz2]; omega
  case b3 => unfold maxLen; omega
  case b4 => simp
  intro w1 hown hgrow
  rw [made_u32] at hown
  have HB1 := Lib.hid (HB0.out.trans (((Below.refl _ _).grown hgrow (Nat.le_refl _) (fun k hk => by cases hk)).mono (by simp)))
  have bY : Boxed w1 w.heap.size 49 (.int .u32 (y : Int)) := (Boxed.new w _ _).kept hgrow (by simp)
  have hg1 : w.heap.size + 1 < w1.heap.size := by
    rcases hown.2 with ⟨h', _⟩ | ⟨g', cap', cur, h', _, hgb, _⟩
    · simp at h'
    · simp only [Value.slice.injEq, Option.some.injEq, Addr.mk.injEq, and_true, true_and] at h'
      obtain ⟨rfl, rfl⟩ := h'
      exact (Array.getElem?_eq_some_iff.1 hgb).1
  have hyc := bY.cell
  have hyf := bY.frozen
  have HO := Lib.hid hown
  have HbY := Lib.hid bY
  clear hown hgrow bY HB0
  have HR := Lib.hid (H.out.1.below HB1.out)
  generalize hb0 : w.heap.size = b0 at *
  generalize hq : w1.heap.size = q at *
  have Hb0 := Lib.hid hb0
  have Hq := Lib.hid hq
  clear hb0 hq
  go_wp2_with (go_at_call 66; refine (backward_c _ _ _ _).mono ?_; rintro e w' ⟨rfl, rfl⟩)
  obtain ⟨W1, hW1⟩ : ∃ W1 : World, w1.alloc (.cells #[.slice (some ⟨b0 + 1, 0, none⟩) n n] 39) = W1 := ⟨_, rfl⟩
  obtain ⟨W2, hW2⟩ : ∃ W2 : World, W1.alloc (.cells #[.int .u64 0] 88) = W2 := ⟨_, rfl⟩
  obtain ⟨W3, hW3⟩ : ∃ W3 : World, W2.alloc (.cells #[.slice A n c] 39) = W3 := ⟨_, rfl⟩
  have s1 : W1.heap.size = q + 1 := by rw [← hW1, World.size_alloc, Hq.out]
  have s2 : W2.heap.size = q + 2 := by rw [← hW2, World.size_alloc, s1]
  have s3 : W3.heap.size = q + 3 := by rw [← hW3, World.size_alloc, s2]
  have bQ : Boxed W1 q 39 (.slice (some ⟨b0 + 1, 0, none⟩) n n) := by rw [← hW1, ← Hq.out]; exact Boxed.new _ _ _
  have bR : Boxed W2 (q + 1) 88 (.int .u64 0) := by rw [← hW2, ← s1]; exact Boxed.new _ _ _
  have bS : Boxed W3 (q + 2) 39 (.slice A n c) := by rw [← hW3, ← s2]; exact Boxed.new _ _ _
  have e1 : ∀ {B t v}, Boxed w1 B t v → Boxed W1 B t v := fun h => by rw [← hW1]; exact h.alloc _
  have e2 : ∀ {B t v}, Boxed W1 B t v → Boxed W2 B t v := fun h => by rw [← hW2]; exact h.alloc _
  have e3 : ∀ {B t v}, Boxed W2 B t v → Boxed W3 B t v := fun h => by rw [← hW3]; exact h.alloc _
  have hO3 : W3.ownsRow (b0 + 1) 49 1 (.slice (some ⟨b0 + 1, 0, none⟩) n n) n (u32s (List.replicate n 0)) := by rw [← hW3, ← hW2, ← hW1]; exact ((HO.out.alloc _).alloc _).alloc _
  have hB3 : Below b0 w W3 := by
    rw [← hW3, ← hW2, ← hW1]
    exact ((HB1.out.alloc (by rw [Hq.out]; omega) _).alloc (by rw [World.size_alloc, Hq.out]; omega) _).alloc (by rw [World.size_alloc, World.size_alloc, Hq.out]; omega) _
  have HY3 := Lib.hid (e3 (e2 (e1 HbY.out)))
  have HQ3 := Lib.hid (e3 (e2 bQ))
  have HR3 := Lib.hid (e3 bR)
  have HS3 := Lib.hid bS
  have HO3 := Lib.hid hO3
  have HB3 := Lib.hid hB3
  have HRR := Lib.hid (H.out.1.below (by rw [Hb0.out]; exact hB3))
  have HS := Lib.hid s3
  rw [hW1, hW2, hW3]
  clear hW1 hW2 hW3 bQ bR bS e1 e2 e3 hO3 hB3 s1 s2 s3 W1 W2 HbY HO HB1 hyc hyf HR
  rw [Hq.out]
  have hg1 : b0 + 1 < q := hg1
  have HS' := HS.out
  refine (wpIn_wide (n := 6)).1 ?_
  refine wpIn_rangeFunc_ownG (n := 6) rfl (by omega) (gf := 87) (lb := #[.pointer (some ⟨q + 1 + 1, 0, none⟩)]) rfl trivial (enters_of Tryd.func87 (by kernel_rfl) rfl)
    (back_stops 5 (by omega) (q + 2) b0 A n c xs (by omega) W3 (by omega) HS3.out (by rw [← Hb0.out]; exact HRR.out)) Kept.trans (kept_b (by omega) (by omega)) (Below.refl _ _) (fun _ => rfl)
    (fun pre W => (((Boxed W b0 49 (.int .u32 (y : Int)) ∧ Boxed W q 39 (.slice (some ⟨b0 + 1, 0, none⟩) n n)) ∧ Boxed W (q + 1) 88 (.int .u64 ((drun xs y n (pre.map (·.1))).1 : Int))) ∧
      W.ownsRow (b0 + 1) 49 1 (.slice (some ⟨b0 + 1, 0, none⟩) n n) n (u32s (drun xs y n (pre.map (·.1))).2)) ∧ Below b0 w W)
    (fun _ _ _ => False)
    (OwnFrom.and (OwnFrom.and (OwnFrom.and (OwnFrom.and (Own.from (boxed_own _ _ _) _) (Own.from (boxed_own _ _ _) _)) (Own.from (boxed_own _ _ _) _)) (Own.from (row_own _ _ _ _ _ _) _)) (ownFrom_below (by rw [Hb0.out]; exact Nat.le_refl _) (by omega)))
    (fun _ _ _ _ _ hs _ _ => hs)
    ⟨⟨⟨⟨HY3.out, HQ3.out⟩, HR3.out⟩, HO3.out⟩, HB3.out⟩
    (fun x => { tmps := #[.slice A n c, .int .u32 (y : Int), undef, .pointer (some ⟨b0, 0, none⟩), .slice none 0 0, .int .u32 0, .bool false, .pointer (some ⟨q, 0, none⟩), .pointer (some ⟨q + 1, 0, none⟩), .int .i64 (x.1 : Int), .int .u32 ((xs.getD x.1 0 : Nat) : Int), undef, .int .u32 (y : Int), .bool false, .slice A n c, .int .i64 (n : Int),
      .slice (some ⟨b0 + 1, 0, none⟩) n n, .slice A n c, .func (.func 87) #[] #[.pointer (some ⟨q + 1 + 1, 0, none⟩)], .int .i64 (x.1 : Int), .int .u32 ((xs.getD x.1 0 : Nat) : Int), undef, undef, undef, undef, undef, undef, undef, undef, undef, undef, undef, undef, undef, undef, undef, undef, undef, undef, undef, undef, undef], defers := [] }) ?assign ?body ?done ?stop
  case assign =>
    intro l x W K hK
    gi_wp2
    simpa using hK
  case body =>
    rintro l pre ⟨i, hin⟩ W ⟨⟨⟨⟨b1, b2⟩, b3⟩, ho⟩, hb⟩ _
    dsimp only
    have hD := drun_snoc xs y n (pre.map (·.1)) i
    rw [show [i] = [(⟨i, hin⟩ : Pl n)].map (·.1) from rfl, ← List.map_append] at hD
    have hrl := drun_lt xs y n hy0 (pre.map (·.1))
    have hlen := drun_length xs y n (pre.map (·.1))
    generalize drun xs y n (pre.map (·.1)) = S at *
    obtain ⟨R, zs⟩ := S
    dsimp only at hrl hlen b3 ho
    have hc1 := b1.cell
    have hc2 := b2.cell
    have hc3 := b3.cell
    have hf3 := b3.frozen
    have hX := getD_lt 1000000000 (by omega) xs GX.out i
    have hq1 := quo_lt hy0 hrl hX
    have hfr := ho.frozenAt i
    have hcell : W.cell? ⟨b0 + 1, i, none⟩ = some (.int .u32 ((zs.getD i 0 : Nat) : Int)) := own_at ho (by omega)
    have HD := Lib.hid hD
    have HLEN := Lib.hid hlen
    have B1 := Lib.hid b1
    have B2 := Lib.hid b2
    have B3 := Lib.hid b3
    have HO := Lib.hid ho
    have HB := Lib.hid hb
    clear hD hlen b1 b2 b3 ho hb
    generalize hXX : xs.getD i 0 = X at *
    have HX := Lib.hid hXX
    clear hXX
    gi_wp2
    have hcast : (R : Int) * 1000000000 + (X : Int) = ((R * 1000000000 + X : Nat) : Int) := by simp
    have HT := Lib.hid (show dstep xs y (R, zs) i = ((R * 1000000000 + X) % y, zs.set i ((R * 1000000000 + X) / y)) from by rw [dstep, HX.out])
    have hTb : R * 1000000000 + X ≤ 4294967296000000000 := by omega
    rw [hcast]
    clear hcast
    generalize R * 1000000000 + X = T at *
    clear hTb
    generalize hQ : T / y = Q at *
    have hwy : IntKind.u64.wrap (y : Int) = (y : Int) := IntWalk.u64_in _ (by omega)
    have hwd : IntKind.u64.wrap ((T : Int) / (y : Int)) = (Q : Int) := by
      rw [IntWalk.up_div rfl rfl, hQ]; exact IntWalk.u64_in _ (by omega)
    have hwr : IntKind.u32.wrap (Q : Int) = (Q : Int) := IntWalk.u32_in _ (by omega)
    clear hQ
    have hyI : ¬ ((y : Int) = 0) := by omega
    have hfin := small_round (w := w) (W := W) (i := i) (B := W3.heap.size) (T := (T : Int) % (y : Int)) hg1 Q rfl B1.out B2.out _ B3.out HO.out HB.out
    have hfin2 : (drun xs y n (List.map (fun x => x.val) (pre ++ [⟨i, hin⟩]))) = (T % y, zs.set i Q) := HD.out.trans HT.out
    have HF := Lib.hid hfin
    have HF2 := Lib.hid hfin2
    clear hfin hfin2
    have hmx : Tryd.prog.follows .mixedOrders = true := by kernel_rfl
    rename_i _ _ _ a2 _ _ _ a0
    have A2 := Lib.hid a2
    have A0 := Lib.hid a0
    have hwS : W.drew.cell? ⟨q, 0, none⟩ = some (.slice (some ⟨b0 + 1, 0, none⟩) n n) ∧ W.drew.cell? ⟨b0, 0, none⟩ = some (.int .u32 (y : Int)) := ⟨hc2, hc1⟩
    have hlt : (i : Int) < (n : Int) := by omega
    have hyN : ¬ (y = 0) := by omega
    clear a2 a0
    clear H GX HL Hb0 Hq HY3 HQ3 HR3 HS3 HO3 HB3 HRR HS HD HLEN B1 B2 B3 HO HB HX HT hi hz0 hz1 hz2 hrl hX hn HS'
    refine wpIn_region_held (S := fun w' => w'.cell? ⟨q, 0, none⟩ = some (.slice (some ⟨b0 + 1, 0, none⟩) n n) ∧ w'.cell? ⟨b0, 0, none⟩ = some (.int .u32 (y : Int))) (by kernel_rfl) (by kernel_rfl) hwS ?_
    intro hHeld
    refine' wpAnyH_take (i := 0) (v := _) rfl (by kernel_rfl) (by kernel_rfl) (by kernel_rfl) (fun _ _ _ h => h) (Or.inl ⟨by rfl, ?yh1⟩) hHeld ?rh1
    case yh1 =>
      intro w hSw
      obtain ⟨hS1, hS2⟩ := hSw
      go_simp
      try with_reducible rfl
    try simp only [Act.put, List.setIfInBounds_toArray]
    refine' wpAnyH_take (i := 1) (v := _) rfl (by kernel_rfl) (by kernel_rfl) (by kernel_rfl) (fun _ _ _ h => h) (Or.inl ⟨by rfl, ?yh2⟩) hHeld ?rh2
    case yh2 =>
      intro w hSw
      obtain ⟨hS1, hS2⟩ := hSw
      go_simp
      try with_reducible rfl
    try simp only [Act.put]
    refine' wpAnyH_take (i := 2) (v := _) rfl (by kernel_rfl) (by kernel_rfl) (by kernel_rfl) (fun _ _ _ h => h) (Or.inl ⟨by rfl, ?yh3⟩) hHeld ?rh3
    case yh3 =>
      intro w hSw
      obtain ⟨hS1, hS2⟩ := hSw
      go_simp
      try with_reducible rfl
    try simp only [Act.put]
    refine' wpAnyH_take (i := 3) (v := _) rfl (by kernel_rfl) (by kernel_rfl) (by kernel_rfl) (fun _ _ _ h => h) (Or.inl ⟨by rfl, ?yh4⟩) hHeld ?rh4
    case yh4 =>
      intro w hSw
      obtain ⟨hS1, hS2⟩ := hSw
      go_simp
      try with_reducible rfl
    try simp only [Act.put]
    refine' wpAnyH_take (i := 4) (v := _) rfl (by kernel_rfl) (by kernel_rfl) (by kernel_rfl) (fun _ _ _ h => h) (Or.inl ⟨by rfl, ?yh5⟩) hHeld ?rh5
    case yh5 =>
      intro w hSw
      obtain ⟨hS1, hS2⟩ := hSw
      go_simp
      try with_reducible rfl
    try simp only [Act.put]
    refine' wpAnyH_take (i := 5) (v := _) rfl (by kernel_rfl) (by kernel_rfl) (by kernel_rfl) (fun _ _ _ h => h) (Or.inl ⟨by rfl, ?yh6⟩) hHeld ?rh6
    case yh6 =>
      intro w hSw
      obtain ⟨hS1, hS2⟩ := hSw
      go_simp
      try with_reducible rfl
    try simp only [Act.put]
    refine' wpAnyH_take (i := 6) (v := _) rfl (by kernel_rfl) (by kernel_rfl) (by kernel_rfl) (fun _ _ _ h => h) (Or.inl ⟨by rfl, ?yh7⟩) hHeld ?rh7
    case yh7 =>
      intro w hSw
      obtain ⟨hS1, hS2⟩ := hSw
      go_simp
      try with_reducible rfl
    try simp only [Act.put]
    refine' wpAnyH_take (i := 7) (v := _) rfl (by kernel_rfl) (by kernel_rfl) (by kernel_rfl) (fun _ _ _ h => h) (Or.inl ⟨by rfl, ?yh8⟩) hHeld ?rh8
    case yh8 =>
      intro w hSw
      obtain ⟨hS1, hS2⟩ := hSw
      go_simp
      try with_reducible rfl
    try simp only [Act.put]
    refine wpAnyH_ready (rs := [8]) (by kernel_rfl) (by simp) ?_
    refine AllReadyH.cons rfl (fun K hK => ?_) ?_
    · go_simp
      refine hK.out _ _ ?_ (fun hHeld => ?_)
      · exact ⟨(World.cell?_setCell_far _ ⟨b0 + 1, i, none⟩ ⟨q, 0, none⟩ _ (by simp; omega)).trans hHeld.1, (World.cell?_setCell_far _ ⟨b0 + 1, i, none⟩ ⟨b0, 0, none⟩ _ (by simp)).trans hHeld.2⟩
      clear hK K
      try simp only [Act.put, List.setIfInBounds_toArray, List.set_cons_zero, List.set_cons_succ]
      refine wpAnyH_done (by kernel_rfl) ?_ _
      refine Calm.normal ?_
      clear hwy hwd hwr hcell hHeld hlt hyN
      have a0 := A0.out
      have a2 := A2.out
      gi_wp2
      refine ⟨HF.out.1, HF.out.2.1, ?_⟩
      dsimp only
      rw [HF2.out]
      dsimp only
      rw [Int.natCast_emod]
      exact HF.out.2.2
    exact AllReadyH.nil
  case done =>
    rintro D ys W hD hys ⟨⟨⟨⟨b1, b2⟩, b3⟩, ho⟩, hb⟩ hK
    rw [hys] at b3 ho
    obtain ⟨hz1', hz2', hz3'⟩ := drun_all xs y n hy0 GX.out HL.out
    have hzl := drun_length xs y n (downTo n n)
    generalize drun xs y n (downTo n n) = S at *
    obtain ⟨R, zs⟩ := S
    dsimp only at hz1' hz2' hz3' hzl b3 ho
    subst hz3'
    have hc2 := b2.cell
    have hc3 := b3.cell
    have hDg := (Array.getElem?_eq_some_iff.1 hK).1
    have HK := Lib.hid hK
    have HO := Lib.hid ho
    have HB := Lib.hid hb
    have HQ2 := Lib.hid b2
    have HQ3' := Lib.hid b3
    have HZ1 := Lib.hid hz1'
    have HZ2 := Lib.hid hz2'
    clear hys hK ho hb b1 b2 b3 hz1' hz2'
    go_wp2
    have hown3 : OwnS W.drew (b0 + 1) (some ⟨b0 + 1, 0, none⟩) n n zs := ⟨HO.out, by omega, fun z hz => by have := HZ1.out z hz; omega⟩
    have CT := trim_c _ _ n zs W.drew hown3.limbs (by omega)
    rw [trim_eq_digs 1000000000 (by omega) _ HZ1.out, HZ2.out] at CT
    have HCT := Lib.hid CT
    have hR9 := Nat.mod_lt (val 1000000000 xs) hy0
    clear CT hown3
    generalize hRe : val 1000000000 xs % y = R at *
    have HRe := Lib.hid hRe
    clear hRe
    have hwr : IntKind.u32.wrap (R : Int) = (R : Int) := IntWalk.u32_in _ (by omega)
    refine wp_region_noPanic ?_
    go_region_with (go_at_call 47; refine HCT.out.mono ?_; rintro e w5 ⟨A5, m5, c5, rfl, ho5, hb5⟩; have hc5 : w5.cell? ⟨q + 1, 0, none⟩ = some (.int .u64 (R : Int)) := (hb5.cell (p := ⟨q + 1, 0, none⟩) HQ3'.out.lt).trans hc3; have HO5 := Lib.hid ho5; have HB5 := Lib.hid hb5; clear ho5 hb5 HCT)
    all_goals refine NoPanic.normal ?_
    all_goals clear hwr
    all_goals go_wp2
    all_goals
      have HK5 : w5.heap[D]? = some (.deferred (some [])) := (HB5.out.block D hDg).trans HK.out
      have hle : b0 ≤ W.drew.heap.size := by have := HB.out.size; have := Hb0.out; show b0 ≤ W.heap.size; omega
      refine ⟨by simp, .inl ⟨_, _, rfl, run_takeDeferred HK5, ?_⟩⟩
      refine ⟨_, results_tmp3 rfl _ _ _, A5, m5, c5, by rw [HRe.out]; rfl, ?_, ?_⟩
      · rw [Hb0.out]
        exact ⟨ownsRow_putObj (HO5.out.weaken hle).1 _ HK5 rfl, (HO5.out).2⟩
      · rw [Hb0.out]
        exact (HB.out.drew.trans (HB5.out.mono hle)).trans (belowK_b (w := W3) (by omega) _ D _ _ hD HK5 rfl rfl)
  case stop =>
    rintro D c pre W _ _ h _
    exact h.elim
end Go.Proofs.YtekanlcfgfllcaaDoor
/- Div3 -/
namespace Go.Proofs.YtekanlcfgfllcaaDoor
open Go.RowKit
set_option maxHeartbeats 1000000 in
theorem guess_c (A A' : Option Addr) (n c n' c' : Nat) (xs ys : List Nat) (w : World) (h : Limbs w A n xs) (h' : Limbs w A' n' ys) (gx : ∀ x ∈ xs, x < 1000000000) (gy : ∀ y ∈ ys, y < 1000000000)
    (hn : n ≤ 900000000) (hn' : n' ≤ 900000000) (hn0 : 0 < n') (hL : ys.getD (n' - 1) 0 ≠ 0) (hlt : val 1000000000 xs < 1000000000 * val 1000000000 ys) :
    Calls Tryd.prog 88 #[.slice A n c, .slice A' n' c'] w fun e w' => e = .returned (.int .u32 ((min (val 1000000000 xs / 1000000000 ^ (n' - 1) / ys.getD (n' - 1) 0) 999999999 : Nat) : Int)) ∧ w = w' := by
  have hl := Lib.hid h.len
  have hl' := Lib.hid h'.len
  obtain ⟨last, rfl⟩ : ∃ k, n' = k + 1 := ⟨n' - 1, by omega⟩
  rw [Nat.add_sub_cancel] at hL ⊢
  have hy := val_lt 1000000000 ys gy
  rw [hl'.out] at hy
  have htop : val 1000000000 xs / 1000000000 ^ last < 1000000000000000000 := by
    rw [Nat.div_lt_iff_lt_mul (Nat.pow_pos (by omega))]
    rw [Nat.pow_succ] at hy
    omega
  have htops : ∀ k, last ≤ k → val 1000000000 (xs.drop k) < 1000000000000000000 := fun k hk => by
    rw [val_drop gx]
    refine Nat.lt_of_le_of_lt (Nat.div_le_div_left (Nat.pow_le_pow_right (by omega) hk) (Nat.pow_pos (by omega))) htop
  obtain ⟨ad', rfl, _, hc', hLb⟩ := h'.at_ (k := last) (by omega)
  have hL1 : 1 ≤ ys.getD last 0 := by omega
  have e0 := Lib.hid (val_drop gx last)
  rw [← e0.out]
  generalize ys.getD last 0 = L at *
  have H := Lib.hid h
  have HT := Lib.hid htops
  clear h h' gx gy hlt hy htop htops hl' hL
  go_enter Tryd.func88, Tryd.ntmps88
  go_wp2
  go_loop [6, 7] (fun hi i => ∃ (k : Nat) (z : Int) (T : Nat), z = (k : Int) - 1 ∧ i = .int .i64 z ∧ hi = .int .u64 (T : Int) ∧ T = val 1000000000 (xs.drop k) ∧ (k ≤ n ∧ (last ≤ k ∨ k = n))) (fun _ i => (intOf i + 1).toNat)
  case atStart => exact ⟨n, _, 0, rfl, by go_num, rfl, by rw [List.drop_eq_nil_of_le (by rw [hl.out]; exact Nat.le_refl _)]; rfl, Nat.le_refl _, .inr rfl⟩
  case round =>
    obtain ⟨k, z, T, hz, rfl, rfl, hT0, hk, hor⟩ := hrel
    have HTV := Lib.hid hT0
    clear hT0
    by_cases hge : last < k
    · obtain ⟨k, rfl⟩ : ∃ j, k = j + 1 := ⟨k - 1, by omega⟩
      obtain rfl : z = (k : Int) := by omega
      obtain ⟨ad, rfl, _, hc, hX⟩ := H.out.at_ (k := k) (by omega)
      have hT1 := HT.out k (by omega)
      have hd := val_drop_succ (xs := xs) (k := k) (by rw [hl.out]; omega)
      rw [← HTV.out] at hd
      rw [hd] at hT1
      generalize xs.getD k 0 = X at *
      have HD := Lib.hid hd
      have hTb : T ≤ 18000000000 := by omega
      clear hz hor hd
      go_wp2
      go_round
      case rel => exact ⟨k, _, T * 1000000000 + X, rfl, rfl, by go_num, HD.out.symm, by omega, .inl (by omega)⟩
      case measure => simp [intOf]
    · have hTl : T = val 1000000000 (xs.drop last) := by
        rw [HTV.out]
        rcases Nat.lt_or_ge k last with h1 | h1
        · rw [List.drop_eq_nil_of_le (by rw [hl.out]; omega), List.drop_eq_nil_of_le (by rw [hl.out]; omega)]
        · rw [show k = last by omega]
      have hT1 := HT.out last (Nat.le_refl _)
      rw [← hTl] at hT1
      have HTL := Lib.hid hTl
      have hzl : z < (last : Int) := by omega
      clear hz hor hTl HTV
      go_wp2
      go_ret
      refine ⟨?_, rfl⟩
      refine (ret_int ?_ : Ending.returned (.int .u32 (min (IntKind.u64.wrap ((T : Int) / (L : Int))) 999999999 % 4294967296)) = _)
      rw [← HTL.out]
      have hq : T / L ≤ T := Nat.div_le_self T L
      rw [IntWalk.up_div rfl rfl]
      generalize T / L = Q at *
      rw [IntWalk.u64_in _ (by omega)]
      omega
set_option maxHeartbeats 1000000 in
set_option maxRecDepth 100000 in
theorem step_c (A A' : Option Addr) (n c n' c' : Nat) (xs ys : List Nat) (w : World) (h : Limbs w A n xs) (h' : Limbs w A' n' ys) (gx : ∀ x ∈ xs, x < 1000000000) (gy : ∀ y ∈ ys, y < 1000000000)
    (hn : n ≤ 900000000) (hn' : n' ≤ 800000000) (hn0 : 0 < n') (hL : ys.getD (n' - 1) 0 ≠ 0) (hlt : val 1000000000 xs < 1000000000 * val 1000000000 ys) :
    Calls Tryd.prog 67 #[.slice A n c, .slice A' n' c'] w fun e w' => ∃ A1 m1 c1, e = .returned (.tuple #[.int .u32 ((val 1000000000 xs / val 1000000000 ys : Nat) : Int), .slice A1 m1 c1]) ∧
      OwnS w' w.heap.size A1 m1 c1 (digs 1000000000 (val 1000000000 xs % val 1000000000 ys)) ∧ Below w.heap.size w w' := by
  have hl' := Lib.hid h'.len
  have hp := pow_le_val h'.len hn0 hL gy
  have hLb : ys.getD (n' - 1) 0 * 1000000000 ^ (n' - 1) ≤ val 1000000000 ys := by
    have h1 := val_drop_succ (xs := ys) (k := n' - 1) (by rw [hl'.out]; omega)
    rw [val_drop gy] at h1
    refine Nat.le_trans (Nat.mul_le_mul_right _ ?_) (Nat.div_mul_le_self _ (1000000000 ^ (n' - 1)))
    omega
  have hge := guess_ge hLb (by omega) hlt
  have hpos : 0 < val 1000000000 ys := Nat.lt_of_lt_of_le (Nat.pow_pos (by omega)) hp
  have CG := guess_c A A' n c n' c' xs ys w h h' gx gy hn (by omega) hn0 hL hlt
  have hgm : min (val 1000000000 xs / 1000000000 ^ (n' - 1) / ys.getD (n' - 1) 0) 999999999 ≤ 999999999 := Nat.min_le_right _ _
  generalize min (val 1000000000 xs / 1000000000 ^ (n' - 1) / ys.getD (n' - 1) 0) 999999999 = G at *
  have H := Lib.hid h
  have H' := Lib.hid h'
  have GX := Lib.hid gx
  have GY := Lib.hid gy
  have HG := Lib.hid CG
  have HGE := Lib.hid hge
  have HPOS := Lib.hid hpos
  clear h h' gx gy CG hge hpos hp hLb hL hlt
  go_enter Tryd.func67, Tryd.ntmps67
  go_wp2_with fail
  refine HG.out.mono ?_
  rintro e w' ⟨rfl, rfl⟩
  clear HG
  go_wp2_with fail
  refine (small_c A' n' c' ys G 0 w H'.out GY.out (by omega) (by omega) (by omega)).mono ?_
  rintro e w1 ⟨A1, m1, c1, rfl, ho, hb⟩
  rw [Nat.add_zero] at ho
  have HO1 := Lib.hid ho
  have HB1 := Lib.hid hb
  clear ho hb
  go_wp2_with fail
  generalize hg : w.heap.size = g at *
  have Hg := Lib.hid hg
  clear hg
  go_loopw [4, 6, 19] (fun t p _ wr => ∃ (k m2 c2 : Nat) (A2 : Option Addr), t = .int .u32 (k : Int) ∧ k ≤ 999999999 ∧ val 1000000000 xs / val 1000000000 ys ≤ k ∧ p = .slice A2 m2 c2 ∧
      Hid (OwnS wr g A2 m2 c2 (digs 1000000000 (val 1000000000 ys * k))) ∧ Hid (Below g w wr)) (fun t _ _ _ => (intOf t).toNat)
  case atStart => exact ⟨G, m1, c1, A1, rfl, hgm, HGE.out, rfl, HO1, HB1⟩
  case round =>
    obtain ⟨k, m2, c2, A2, rfl, hk, hqk, rfl, HO, HB⟩ := hrel
    have HQ := Lib.hid hqk
    clear hqk
    have HX := Lib.hid (H.out.below (by rw [Hg.out]; exact HB.out))
    have HY := Lib.hid (H'.out.below (by rw [Hg.out]; exact HB.out))
    have hm2 : m2 ≤ 900000000 := by
      rw [← HO.out.len]
      refine Nat.le_trans (digs_len9' (k := n' + 1) ?_) (by omega)
      have h1 := val_lt 1000000000 ys GY.out
      rw [hl'.out] at h1
      rw [Nat.pow_succ]
      exact Nat.mul_lt_mul'' h1 (by omega)
    have CC := cmp_c A2 A m2 c2 n c _ xs wr HO.out.limbs HX.out (digs_lt 1000000000 (by omega) _) GX.out
    rw [val_digs 1000000000 (by omega)] at CC
    by_cases hgt : val 1000000000 xs < val 1000000000 ys * k
    · have hc1 : cmpI (val 1000000000 ys * k) (val 1000000000 xs) = 1 := by rw [cmpI, if_neg (by omega), if_pos hgt]
      rw [hc1] at CC
      have HCC := Lib.hid CC
      have HGT := Lib.hid hgt
      have hk0 : 0 < k := by
        rcases Nat.eq_zero_or_pos k with h0 | h0
        · rw [h0, Nat.mul_zero] at hgt; omega
        · exact h0
      have hqk2 : val 1000000000 xs / val 1000000000 ys ≤ k - 1 := by
        have : val 1000000000 xs / val 1000000000 ys < k := by rw [Nat.div_lt_iff_lt_mul HPOS.out, Nat.mul_comm]; exact hgt
        omega
      have HQ2 := Lib.hid hqk2
      clear CC hgt hc1 hqk2 HQ
      go_wp2_with fail
      refine HCC.out.mono ?_
      rintro e w2 ⟨rfl, hb⟩
      have hbg : g ≤ wr.heap.size := by have := HB.out.size; have := Hg.out; omega
      have HO2 := Lib.hid (HO.out.keep hb rfl)
      have HB2 := Lib.hid (HB.out.trans (hb.mono hbg))
      have HY2 := Lib.hid (HY.out.below hb)
      clear hb HCC
      have hle : val 1000000000 ys ≤ val 1000000000 (digs 1000000000 (val 1000000000 ys * k)) := by
        rw [val_digs 1000000000 (by omega)]; exact Nat.le_mul_of_pos_right _ hk0
      have CS := sub_geq A2 A' m2 c2 n' c' _ ys w2 HO2.out.limbs HY2.out (digs_lt 1000000000 (by omega) _) GY.out hle hm2
      rw [val_digs 1000000000 (by omega), show val 1000000000 ys * k - val 1000000000 ys = val 1000000000 ys * (k - 1) by rw [Nat.mul_sub, Nat.mul_one]] at CS
      have HCS := Lib.hid CS
      clear CS hle
      go_wp2_with fail
      refine HCS.out.mono ?_
      rintro e w3 ⟨A3, m3, c3, rfl, ho, hb⟩
      have hbg2 : g ≤ w2.heap.size := by have := HB2.out.size; have := Hg.out; omega
      have HO3 := Lib.hid (ho.weaken hbg2)
      have HB3 := Lib.hid (HB2.out.trans (hb.mono hbg2))
      clear ho hb HCS
      go_wp2
      go_roundw
      case rel => exact ⟨k - 1, m3, c3, A3, by go_num, by omega, HQ2.out, rfl, HO3, HB3⟩
      case measure => simp [intOf]; omega
    · have hkq : k = val 1000000000 xs / val 1000000000 ys := by
        have : k ≤ val 1000000000 xs / val 1000000000 ys := by rw [Nat.le_div_iff_mul_le HPOS.out, Nat.mul_comm]; omega
        have := HQ.out
        omega
      obtain ⟨r, hr0, hr⟩ : ∃ r : Int, r ≤ 0 ∧ cmpI (val 1000000000 ys * k) (val 1000000000 xs) = r := by
        refine ⟨_, ?_, rfl⟩
        unfold cmpI
        split <;> first | omega | (split <;> omega)
      rw [hr] at CC
      have hle : val 1000000000 (digs 1000000000 (val 1000000000 ys * k)) ≤ val 1000000000 xs := by rw [val_digs 1000000000 (by omega)]; omega
      have HCC := Lib.hid CC
      have HKQ := Lib.hid hkq
      have HLE := Lib.hid hle
      clear CC hgt hr hkq hle
      go_wp2_with fail
      refine HCC.out.mono ?_
      rintro e w2 ⟨rfl, hb⟩
      have hbg : g ≤ wr.heap.size := by have := HB.out.size; have := Hg.out; omega
      have HO2 := Lib.hid (HO.out.keep hb rfl)
      have HB2 := Lib.hid (HB.out.trans (hb.mono hbg))
      have HX2 := Lib.hid (HX.out.below hb)
      clear hb HCC
      have CS := sub_geq A A2 n c m2 c2 xs _ w2 HX2.out HO2.out.limbs GX.out (digs_lt 1000000000 (by omega) _) HLE.out hn
      rw [val_digs 1000000000 (by omega), show val 1000000000 xs - val 1000000000 ys * k = val 1000000000 xs % val 1000000000 ys by rw [HKQ.out]; have := Nat.div_add_mod (val 1000000000 xs) (val 1000000000 ys); omega] at CS
      have HCS := Lib.hid CS
      clear CS
      go_wp2_with fail
      refine HCS.out.mono ?_
      rintro e w3 ⟨A3, m3, c3, rfl, ho, hb⟩
      have hbg2 : g ≤ w2.heap.size := by have := HB2.out.size; have := Hg.out; omega
      have HO3 := Lib.hid (ho.weaken hbg2)
      have HB3 := Lib.hid (HB2.out.trans (hb.mono hbg2))
      clear ho hb HCS
      go_wp2
      go_ret2
      exact ⟨A3, m3, c3, by rw [← HKQ.out]; rfl, by rw [Hg.out]; exact HO3.out, by rw [Hg.out]; exact HB3.out⟩
end Go.Proofs.YtekanlcfgfllcaaDoor
/- Div4 -/
namespace Go.Proofs.YtekanlcfgfllcaaDoor
open Go.RowKit
theorem own_one (w : World) (X : Nat) (E : Int) (hE : E = (X : Int)) : (w.alloc (.cells #[.int .u32 E] 49)).ownsRow w.heap.size 49 1 (.slice (some ⟨w.heap.size, 0, none⟩) 1 1) 1 (u32s [X]) := by
  subst hE
  exact own_of_blk (World.alloc_heap_new w _) (Nat.le_refl _) rfl (by unfold maxLen; omega)
theorem limbs_of_reads {w : World} {g n : Nat} {A : Option Addr} {xs : List Nat} (h : Reads w g 1 A n (u32s xs)) (hg : g ≤ w.heap.size) (hn : n ≤ 36000000000000) (hx : ∀ x ∈ xs, x < 1000000000) : Limbs w A n xs :=
  ⟨h.more hg, hn, fun x h' => by have := hx x h'; omega⟩
theorem own_lt {w : World} {base e size g n c : Nat} {xs : List Value} (h : w.ownsRow base e size (.slice (some ⟨g, 0, none⟩) n c) n xs) : g < w.heap.size := by
  rcases h.2 with ⟨h', _⟩ | ⟨g', cap', cur, h', _, hgb, _⟩
  · simp at h'
  · simp only [Value.slice.injEq, Option.some.injEq, Addr.mk.injEq, and_true, true_and] at h'
    obtain ⟨rfl, _⟩ := h'
    exact (Array.getElem?_eq_some_iff.1 hgb).1
theorem own_setCell_other {w : World} {base n g j : Nat} {e : TypeId} {v u : Value} {xs : List Value} (h : w.ownsRow base e 1 v n xs) (hg : g < base) : (w.setCell ⟨g, j, none⟩ u).ownsRow base e 1 v n xs := by
  refine ⟨h.1, ?_⟩
  rcases h.2 with h' | ⟨g', cap', cur, h1, h2, h3, h4⟩
  · exact .inl h'
  · refine .inr ⟨g', cap', cur, h1, h2, ?_, h4⟩
    rw [Below.heap_setCell _ _ _ g' (Nat.ne_of_gt (Nat.lt_of_lt_of_le hg h2))]
    exact h3
theorem OwnS.setCell_other {w : World} {base m c g j : Nat} {A : Option Addr} {u : Value} {ys : List Nat} (h : OwnS w base A m c ys) (hg : g < base) : OwnS (w.setCell ⟨g, j, none⟩ u) base A m c ys := ⟨own_setCell_other h.1 hg, h.2⟩
/-- Where a long division stands, k limbs of the first number being left. -/
structure LongAt (X Y N k : Nat) (rs zs : List Nat) : Prop where
  len : zs.length = N
  lt : ∀ z ∈ zs, z < 1000000000
  zero : ∀ j, j < k → zs.getD j 0 = 0
  rest : val 1000000000 rs < Y
  restLt : ∀ r ∈ rs, r < 1000000000
  eq : X = Y * val 1000000000 zs + 1000000000 ^ k * val 1000000000 rs + val 1000000000 ((digs 1000000000 X).take k)
theorem LongAt.next {X Y N k : Nat} {rs zs : List Nat} (h : LongAt X Y N (k + 1) rs zs) (hk : k < N) :
    val 1000000000 ((digs 1000000000 X).getD k 0 :: rs) < 1000000000 * Y ∧ (∀ x ∈ (digs 1000000000 X).getD k 0 :: rs, x < 1000000000) ∧
      val 1000000000 ((digs 1000000000 X).getD k 0 :: rs) / Y < 1000000000 ∧
      LongAt X Y N k (digs 1000000000 (val 1000000000 ((digs 1000000000 X).getD k 0 :: rs) % Y)) (zs.set k (val 1000000000 ((digs 1000000000 X).getD k 0 :: rs) / Y)) := by
  have hx := getD_lt 1000000000 (by omega) (digs 1000000000 X) (digs_lt 1000000000 (by omega) X) k
  have hv := val_take_succ 1000000000 (digs 1000000000 X) k
  have he := h.eq
  rw [hv, Nat.pow_succ] at he
  have hr := h.rest
  have hs := val_set 1000000000 zs k (val 1000000000 ((digs 1000000000 X).getD k 0 :: rs) / Y) (by rw [h.len]; omega)
  rw [h.zero k (by omega), Nat.mul_zero, Nat.add_zero] at hs
  have hc : ∀ d, val 1000000000 (d :: rs) = val 1000000000 rs * 1000000000 + d := fun d => by simp only [val]; omega
  have h1 := step_lt hr hx
  rw [← hc] at h1
  have hy0 : 0 < Y := by omega
  have hq : val 1000000000 ((digs 1000000000 X).getD k 0 :: rs) / Y < 1000000000 := by rw [Nat.div_lt_iff_lt_mul hy0]; omega
  refine ⟨h1, ?_, hq, ⟨by simpa using h.len, ?_, ?_, ?_, digs_lt 1000000000 (by omega) _, ?_⟩⟩
  · intro x hx'
    rcases List.mem_cons.1 hx' with rfl | hx'
    · exact hx
    · exact h.restLt x hx'
  · intro z hz
    rcases List.mem_or_eq_of_mem_set hz with hz | hz
    · exact h.lt z hz
    · rw [hz]; exact hq
  · intro j hj
    rw [getD_set_ne _ _ _ _ (by omega)]
    exact h.zero j (by omega)
  · rw [val_digs 1000000000 (by omega)]
    exact Nat.mod_lt _ hy0
  · rw [hs, val_digs 1000000000 (by omega)]
    exact long_step he (hc _)
set_option maxHeartbeats 2000000 in
set_option maxRecDepth 100000 in
theorem long_c (A A' : Option Addr) (n c n' c' : Nat) (xs ys : List Nat) (w : World) (h : Limbs w A n xs) (h' : Limbs w A' n' ys) (gx : ∀ x ∈ xs, x < 1000000000) (gy : ∀ y ∈ ys, y < 1000000000)
    (hn : n ≤ 100000000) (hn' : n' ≤ 100000000) (hn0 : 2 ≤ n') (hL : ys.getD (n' - 1) 0 ≠ 0) (hle : val 1000000000 ys ≤ val 1000000000 xs) :
    Calls Tryd.prog 50 #[.slice A n c, .slice A' n' c'] w fun e w' => ∃ A1 m1 c1 A2 m2 c2, e = .returned (.tuple #[.slice A1 m1 c1, .slice A2 m2 c2]) ∧
      OwnS w' w.heap.size A1 m1 c1 (digs 1000000000 (val 1000000000 xs / val 1000000000 ys)) ∧ OwnS w' w.heap.size A2 m2 c2 (digs 1000000000 (val 1000000000 xs % val 1000000000 ys)) ∧ Below w.heap.size w w' := by
  obtain ⟨i0, hi, hz0, hz1, hz2⟩ := info_parts u32_info
  have hl := Lib.hid h.len
  have hl' := Lib.hid h'.len
  obtain ⟨last, rfl⟩ : ∃ k, n' = k + 1 := ⟨n' - 1, by omega⟩
  rw [Nat.add_sub_cancel] at hL
  have hp := pow_le_val h'.len (by omega) (by rw [Nat.add_sub_cancel]; exact hL) gy
  rw [Nat.add_sub_cancel] at hp
  have hLs := getD_lt 1000000000 (by omega) ys gy last
  obtain ⟨ad', rfl, _, hc', _⟩ := h'.at_ (k := last) (by omega)
  generalize ys.getD last 0 = L at *
  obtain ⟨F, hF⟩ : ∃ F : Nat, F = 1000000000 / (L + 1) := ⟨_, rfl⟩
  have hF1 : 1 ≤ F := by rw [hF, Nat.le_div_iff_mul_le (by omega)]; omega
  have hF2 : F ≤ 500000000 := by
    rw [hF]
    have : L + 1 ≥ 2 := by omega
    exact Nat.le_trans (Nat.div_le_div_left this (by omega)) (by omega)
  have H := Lib.hid h
  have H' := Lib.hid h'
  have GX := Lib.hid gx
  have GY := Lib.hid gy
  have HF := Lib.hid hF
  have HP := Lib.hid hp
  have HLE := Lib.hid hle
  have hL1 : 1 ≤ L := by omega
  clear h h' gx gy hF hp hle hL
  go_enter Tryd.func50, Tryd.ntmps50
  go_wp2_with fail
  rw [show (1000000000 : Int) / ((L : Int) + 1) = (F : Int) by rw [HF.out]; simp]
  refine (small_c A n c xs F 0 w H.out GX.out (by omega) (by omega) (by omega)).mono ?_
  rintro e w1 ⟨A1, m1, c1, rfl, ho, hb⟩
  rw [Nat.add_zero] at ho
  have O1 := Lib.hid ho
  have HY1 := Lib.hid (H'.out.below hb)
  have B := Lib.hid hb
  clear ho hb
  go_wp2_with fail
  refine (small_c (some ad') (last + 1) c' ys F 0 w1 HY1.out GY.out (by omega) (by omega) (by omega)).mono ?_
  rintro e w2 ⟨A2, m2, c2, rfl, ho, hb⟩
  rw [Nat.add_zero] at ho
  have O2 := Lib.hid ho
  replace O1 := Lib.hid (O1.out.keep hb rfl)
  replace B := Lib.hid (B.out.trans (hb.mono B.out.size))
  clear ho hb HY1
  have hx := val_lt 1000000000 xs GX.out
  have hy := val_lt 1000000000 ys GY.out
  have hm1 : m1 ≤ 100000001 := by
    rw [← O1.out.len]
    refine Nat.le_trans (digs_len9' (k := n + 1) ?_) (by omega)
    rw [hl.out] at hx
    rw [Nat.pow_succ]
    exact Nat.mul_lt_mul'' hx (by omega)
  have hyF : val 1000000000 ys ≤ val 1000000000 ys * F := Nat.le_mul_of_pos_right _ (by omega)
  have hm2 : last < m2 := by
    rw [← O2.out.len]
    exact digs_len_pos (Nat.le_trans HP.out hyF)
  have hm21 : m2 ≤ m1 := by
    rw [← O2.out.len, ← O1.out.len]
    exact digs_len_mono (Nat.mul_le_mul_right F HLE.out)
  have hXY : val 1000000000 xs * F / (val 1000000000 ys * F) = val 1000000000 xs / val 1000000000 ys := Nat.mul_div_mul_right _ _ (by omega)
  have hXYm : val 1000000000 xs * F % (val 1000000000 ys * F) = val 1000000000 xs % val 1000000000 ys * F := Nat.mul_mod_mul_right _ _ _
  have hy0 : 0 < val 1000000000 ys * F := Nat.lt_of_lt_of_le (Nat.pow_pos (by omega : 0 < 1000000000)) (Nat.le_trans HP.out hyF)
  have HXY := Lib.hid hXY
  have HXYM := Lib.hid hXYm
  have HY0 := Lib.hid hy0
  clear hx hy hyF hXY hXYm hy0
  generalize val 1000000000 xs * F = X at *
  generalize val 1000000000 ys * F = Y at *
  obtain ⟨N, hN⟩ : ∃ N : Nat, N = m1 - m2 + 1 := ⟨_, rfl⟩
  have hNI := Lib.hid (show (m1 : Int) - (m2 : Int) + 1 = (N : Int) by omega)
  have hN1 : N < m1 := by omega
  have hN2 : m1 + 1 = N + m2 := by omega
  clear hN
  go_wp2_with fail
  rw [hNI.out]
  obtain ⟨w3, hrun, hown, hgrow⟩ := run_make_full (P := Tryd.prog) w2.drew w2.heap.size 39 49 i0 (.int .u32 0) 1 Tryd.underlying39 hi hz0 hz1 .i64 .i64 N (by rw [hz2]; omega) (by unfold maxLen; omega) (Nat.le_refl _)
  rw [show (Value.int IntKind.u32 0).cells = #[.int .u32 0] from rfl, Nat.mul_one, made_u32, show w2.drew.heap.size = w2.heap.size from rfl] at hown
  rw [show w2.drew.heap.size = w2.heap.size from rfl] at hrun
  have W0 := Lib.hid hown
  have HG3 := Lib.hid hgrow
  clear hown hgrow
  have hcap : m1 ≤ c1 := by
    rcases O1.out.1.2 with ⟨e, e2⟩ | ⟨g, cap, cur, e, _, _, hc, _⟩
    · omega
    · simp only [Value.slice.injEq] at e
      omega
  have hNc : ¬ c1 = N := by omega
  obtain ⟨ad, hA1⟩ : ∃ ad, A1 = some ad := by
    obtain ⟨gA, cA, e, _⟩ := own_pos O1.out.1 (by omega)
    simp only [Value.slice.injEq] at e
    exact ⟨_, e.1⟩
  subst hA1
  go_region
  have hsz := Lib.hid HG3.out.size
  have HB3 := Lib.hid (B.out.drew.grown HG3.out B.out.size (fun k hk => by cases hk))
  have LA3 := Lib.hid ((O1.out.limbs.1).below ((Below.refl w2.heap.size w2).drew.grown HG3.out (Nat.le_refl _) (fun k hk => by cases hk)))
  have LB3 := Lib.hid ((O2.out.limbs.1).below ((Below.refl w2.heap.size w2).drew.grown HG3.out (Nat.le_refl _) (fun k hk => by cases hk)))
  have LR3 := LA3.out.cut (k := N) (cap := c1) (by omega) hcap
  rw [if_neg hNc, Nat.mul_one] at LR3
  have hla := O1.out.len
  have hlb := O2.out.len
  have LR := Lib.hid (show Limbs w3 (some (ad.add N)) (m1 - N) ((digs 1000000000 X).drop N) from
    ⟨by rw [u32s, ← List.map_drop] at LR3; exact LR3.more hsz.out, by omega, fun x hx => by have := digs_lt 1000000000 (by omega) X x (List.mem_of_mem_drop hx); omega⟩)
  have hst : LongAt X Y N N ((digs 1000000000 X).drop N) (List.replicate N 0) := by
    refine ⟨by simp, ?_, fun j _ => getD_replicate _ _, ?_, fun r hr => digs_lt 1000000000 (by omega) X r (List.mem_of_mem_drop hr), ?_⟩
    · intro z hz; rw [List.eq_of_mem_replicate hz]; omega
    · have h1 := val_lt 1000000000 ((digs 1000000000 X).drop N) fun r hr => digs_lt 1000000000 (by omega) X r (List.mem_of_mem_drop hr)
      rw [List.length_drop, hla, show m1 - N = m2 - 1 by omega] at h1
      exact Nat.lt_of_lt_of_le h1 (digs_pow_le hlb (by omega))
    · have h1 := val_append 1000000000 ((digs 1000000000 X).take N) ((digs 1000000000 X).drop N)
      rw [List.take_append_drop, val_digs 1000000000 (by omega), List.length_take, hla, Nat.min_eq_left (by omega)] at h1
      rw [val_replicate, Nat.mul_zero, Nat.zero_add]
      omega
  have HST := Lib.hid hst
  have HLA := Lib.hid hla
  have HLB := Lib.hid hlb
  have HLL := Lib.hid (show (digs 1000000000 Y).getD (m2 - 1) 0 ≠ 0 by
    have := tz_last (digs 1000000000 Y) (by rw [tz_digs 1000000000 (by omega), hlb]; omega)
    rwa [tz_digs 1000000000 (by omega), hlb] at this)
  have W1 := Lib.hid W0.out
  have hgs : w.heap.size ≤ w2.heap.size := B.out.size
  clear hrun LR3 hla hlb hst O1 O2 B W0 HG3 H H' hNc
  generalize hg : w2.heap.size = g at *
  have Hg := Lib.hid hg
  clear hg
  go_wp2_with fail
  go_loopw [5, 8, 40] (fun r i _ wr => ∃ (z : Int) (k m5 c5 : Nat) (A5 : Option Addr) (rs zs : List Nat), Hid (z = (k : Int) - 1) ∧ i = .int .i64 z ∧ k ≤ N ∧ r = .slice A5 m5 c5 ∧ m5 ≤ 100000001 ∧ Hid (Limbs wr A5 m5 rs) ∧
      Hid (wr.ownsRow g 49 1 (.slice (some ⟨g, 0, none⟩) N N) N (u32s zs)) ∧ Hid (Below g w3 wr) ∧ Hid (LongAt X Y N k rs zs)) (fun _ i _ _ => (intOf i + 1).toNat)
  case atStart => exact ⟨_, N, m1 - N, c1 - N, _, _, _, Lib.hid rfl, rfl, Nat.le_refl _, rfl, by omega, LR, W1, Lib.hid (Below.refl _ _), HST⟩
  case round =>
    obtain ⟨z, k, m5, c5, A5, rs, zs, hz, rfl, hk, rfl, hm5, HR, HO, HB, HAT⟩ := hrel
    have hgw : g ≤ w3.heap.size := by have := hsz.out; have := Hg.out; rw [← Hg.out]; exact hsz.out
    have hgr : g < wr.heap.size := own_lt HO.out
    have HA := Lib.hid (LA3.out.below HB.out)
    have HBb := Lib.hid (limbs_of_reads (LB3.out.below HB.out) (Nat.le_of_lt hgr) (by omega) (digs_lt 1000000000 (by omega) Y))
    rcases k with _ | k
    · obtain rfl : z = -1 := by have := hz.out; omega
      have he := HAT.out.eq
      rw [Nat.pow_zero, Nat.one_mul, List.take_zero] at he
      simp only [val, Nat.add_zero] at he
      have hq : X / Y = val 1000000000 zs := by rw [he, Nat.mul_add_div HY0.out, Nat.div_eq_of_lt HAT.out.rest, Nat.add_zero]
      have hr : X % Y = val 1000000000 rs := by rw [he, Nat.mul_add_mod, Nat.mod_eq_of_lt HAT.out.rest]
      have CS := divSmall_c A5 m5 c5 rs F wr HR.out HAT.out.restLt (by omega) (by omega) (by omega)
      rw [← hr, HXYM.out, Nat.mul_div_cancel _ (by omega)] at CS
      have HCS := Lib.hid CS
      have HQ := Lib.hid hq
      clear CS he hq hr
      go_wp2_with fail
      refine HCS.out.mono ?_
      rintro e w5 ⟨A6, m6, c6, rfl, ho, hb⟩
      have HO5 := Lib.hid ho
      have HW5 := Lib.hid (own_kept_lt HO.out hb (fun k hk => by cases hk; exact hgr))
      have s5 := hb.size
      have HB5 := Lib.hid (HB3.out.trans ((HB.out.mono hgs).trans (hb.mono (by omega))))
      clear ho hb HCS
      have HT5 := Lib.hid (show OwnS w5 g (some ⟨g, 0, none⟩) N N zs from ⟨HW5.out, by omega, fun z hz => by have := HAT.out.lt z hz; omega⟩)
      have CT := trim_c _ _ N zs w5 HT5.out.limbs (by omega)
      rw [trim_eq_digs 1000000000 (by omega) _ HAT.out.lt, ← HQ.out, HXY.out] at CT
      have HCT := Lib.hid CT
      clear CT
      go_wp2_with fail
      refine HCT.out.mono ?_
      rintro e w6 ⟨A7, m7, c7, rfl, ho, hb⟩
      have s6 := hb.size
      have HO7 := Lib.hid (ho.weaken (by omega : w.heap.size ≤ w5.heap.size))
      have HO6 := Lib.hid ((HO5.out.keep hb rfl).weaken (by omega : w.heap.size ≤ wr.heap.size))
      have HB6 := Lib.hid (HB5.out.trans (hb.mono (by omega)))
      clear ho hb HCT
      go_wp2
      go_ret2
      exact ⟨A7, m7, c7, A6, m6, c6, rfl, HO7.out, HO6.out, HB6.out⟩
    · obtain rfl : z = (k : Int) := by have := hz.out; omega
      obtain ⟨hn1, hn2, hn3, hn4⟩ := HAT.out.next (by omega)
      obtain ⟨ad2, had2, had, hc⟩ := reads_at HA.out (k := k) (by omega)
      obtain rfl : ad = ad2 := by simpa using had2
      have HX1 := Lib.hid (getD_lt 1000000000 (by omega) (digs 1000000000 X) (digs_lt 1000000000 (by omega) X) k)
      generalize (digs 1000000000 X).getD k 0 = D at *
      have N1 := Lib.hid hn1
      have N2 := Lib.hid hn2
      have N4 := Lib.hid hn4
      have HRA := Lib.hid (HR.out.below ((Below.refl wr.heap.size wr).alloc (Nat.le_refl _) (.cells #[.int .u32 (D : Int)] 49)))
      clear hn1 hn2 hn4 HAT HA LA3 had2
      go_wp2_with (at_builtin; go_must (refine wpList_app_limbs rfl (.tmp 47) (.tmp 48) _ rfl Tryd.underlying39 wr.heap.size _ 1 [D] rfl (own_one wr D _ rfl) A5 m5 c5 rs rfl HRA.out (by omega) ((Below.refl wr.heap.size wr).alloc (Nat.le_refl _) _) (by simp) ?_))
      intro v1 w4 ho1 hb1
      obtain ⟨g1, cap1, rfl, hg1a, hg1b, _, _⟩ := own_pos ho1.out (by omega)
      have HL4 := Lib.hid (show Limbs w4 (some ⟨g1, 0, none⟩) (1 + m5) (D :: rs) from ⟨Reads.of_own ho1.out, by omega, fun x hx => by have := N2.out x hx; omega⟩)
      have HO4 := Lib.hid (own_kept_lt HO.out hb1.out (fun k hk => by cases hk; exact hgr))
      have HB4 := Lib.hid (HBb.out.below hb1.out)
      have s4 := hb1.out.size
      have CS := step_c (some ⟨g1, 0, none⟩) A2 (1 + m5) cap1 m2 c2 (D :: rs) (digs 1000000000 Y) w4 HL4.out HB4.out N2.out (digs_lt 1000000000 (by omega) Y) (by omega) (by omega) (by omega) HLL.out (by rw [val_digs 1000000000 (by omega)]; exact N1.out)
      rw [val_digs 1000000000 (by omega)] at CS
      have hRY := Nat.mod_lt (val 1000000000 (D :: rs)) HY0.out
      generalize val 1000000000 (D :: rs) / Y = Q at *
      generalize val 1000000000 (D :: rs) % Y = R at *
      have HCS := Lib.hid CS
      clear CS
      go_wp2_with fail
      refine HCS.out.mono ?_
      rintro e w5 ⟨A6, m6, c6, rfl, ho, hb⟩
      have HO5 := Lib.hid ho
      have HW5 := Lib.hid (own_kept_lt HO4.out hb (fun k hk => by cases hk; exact Nat.lt_of_lt_of_le hgr s4))
      have HB5 := Lib.hid (hb1.out.trans (hb.mono s4))
      have hcell : w5.cell? ⟨g, k, none⟩ = some (.int .u32 ((zs.getD k 0 : Nat) : Int)) := own_at HW5.out (by omega)
      have hfr : w5.frozen? ⟨g, k, none⟩ = false := HW5.out.frozenAt k
      clear ho hb HCS
      go_wp2
      go_roundw
      case rel =>
        refine ⟨_, k, m6, c6, A6, _, _, Lib.hid rfl, rfl, by omega, rfl, ?_, Lib.hid (HO5.out.setCell_other (by omega)).limbs, Lib.hid ?_, Lib.hid (((HB.out.trans (HB5.out.mono (Nat.le_of_lt hgr)))).setCell (Nat.le_refl _) _), N4⟩
        · rw [← HO5.out.len]
          refine Nat.le_trans (digs_len_mono (Nat.le_of_lt hRY)) ?_
          rw [HLB.out]
          omega
        · rw [u32s_set]
          exact (HW5.out.stored k _).1
      case measure => simp [intOf]
end Go.Proofs.YtekanlcfgfllcaaDoor
/- Div5 -/
namespace Go.Proofs.YtekanlcfgfllcaaDoor
open Go.RowKit
theorem all_good {xs : List Nat} (h : ∀ x ∈ xs, x < 1000000000) : (xs.all fun x => decide (x ≤ 999999999)) = true := by
  rw [List.all_eq_true]
  intro x hx
  have := h x hx
  simp
  omega
theorem ownS_nil (w : World) (base : Nat) : OwnS w base none 0 0 [] := ⟨World.ownsRow_nil _ _ _ _, by omega, by simp⟩
set_option maxHeartbeats 2000000 in
set_option maxRecDepth 100000 in
theorem divMod_zero (A A' : Option Addr) (n c n' c' : Nat) (xs ys : List Nat) (w : World) (h : Limbs w A n xs) (h' : Limbs w A' n' ys) (gy : ∀ y ∈ ys, y < 1000000000)
    (hn : n ≤ 100000000) (hn' : n' ≤ 100000000) (hy : val 1000000000 ys = 0) :
    Calls Tryd.prog 21 #[.slice A n c, .slice A' n' c'] w fun e w' => e = .returned (.tuple #[.slice none 0 0, .slice none 0 0, .bool false]) ∧ Below w.heap.size w w' := by
  have H := Lib.hid h
  have H' := Lib.hid h'
  have GY := Lib.hid gy
  have HY := Lib.hid hy
  clear h h' gy hy
  go_enter Tryd.func21, Tryd.ntmps21
  go_wp2_with fail
  refine (trim_c A n c xs w H.out (by omega)).mono ?_
  rintro e w1 ⟨A1, m1, c1, rfl, ho, hb⟩
  have B := Lib.hid hb
  clear ho hb
  go_wp2_with fail
  refine (trim_c A' n' c' ys w1 (H'.out.below B.out) (by omega)).mono ?_
  rintro e w2 ⟨A2, m2, c2, rfl, ho, hb⟩
  rw [trim_eq_digs 1000000000 (by omega) _ GY.out, HY.out, digs_zero] at ho
  obtain rfl : m2 = 0 := ho.len.symm
  replace B := Lib.hid (B.out.trans (hb.mono B.out.size))
  clear ho hb
  go_wp2
  go_ret3
  exact ⟨rfl, B.out⟩
set_option maxHeartbeats 2000000 in
set_option maxRecDepth 100000 in
theorem divMod_c (A A' : Option Addr) (n c n' c' : Nat) (xs ys : List Nat) (w : World) (h : Limbs w A n xs) (h' : Limbs w A' n' ys) (gx : ∀ x ∈ xs, x < 1000000000) (gy : ∀ y ∈ ys, y < 1000000000)
    (hn : n ≤ 100000000) (hn' : n' ≤ 100000000) (hy : 0 < val 1000000000 ys) :
    Calls Tryd.prog 21 #[.slice A n c, .slice A' n' c'] w fun e w' => ∃ A1 m1 c1 A2 m2 c2, e = .returned (.tuple #[.slice A1 m1 c1, .slice A2 m2 c2, .bool true]) ∧
      OwnS w' w.heap.size A1 m1 c1 (digs 1000000000 (val 1000000000 xs / val 1000000000 ys)) ∧ OwnS w' w.heap.size A2 m2 c2 (digs 1000000000 (val 1000000000 xs % val 1000000000 ys)) ∧ Below w.heap.size w w' := by
  have H := Lib.hid h
  have H' := Lib.hid h'
  have GX := Lib.hid gx
  have GY := Lib.hid gy
  have HY := Lib.hid hy
  have hlx := h.len
  have hly := h'.len
  clear h h' gx gy hy
  go_enter Tryd.func21, Tryd.ntmps21
  go_wp2_with fail
  refine (trim_c A n c xs w H.out (by omega)).mono ?_
  rintro e w1 ⟨A1, m1, c1, rfl, ho, hb⟩
  have hm1 : m1 ≤ 100000000 := by rw [← ho.len, trim_length]; have := tz_le xs; omega
  rw [trim_eq_digs 1000000000 (by omega) _ GX.out] at ho
  have O1 := Lib.hid ho
  have B := Lib.hid hb
  clear ho hb
  go_wp2_with fail
  refine (trim_c A' n' c' ys w1 (H'.out.below B.out) (by omega)).mono ?_
  rintro e w2 ⟨A2, m2, c2, rfl, ho, hb⟩
  have hm2 : m2 ≤ 100000000 := by rw [← ho.len, trim_length]; have := tz_le ys; omega
  rw [trim_eq_digs 1000000000 (by omega) _ GY.out] at ho
  have O2 := Lib.hid ho
  replace O1 := Lib.hid (O1.out.keep hb rfl)
  have hw1 := B.out.size
  replace B := Lib.hid (B.out.trans (hb.mono hw1))
  clear ho hb hlx hly
  generalize hX : val 1000000000 xs = X at *
  generalize hYY : val 1000000000 ys = Y at *
  have HXX := Lib.hid hX
  have HYY := Lib.hid hYY
  clear hX hYY
  have hm20 : 0 < m2 := by
    rcases Nat.eq_zero_or_pos m2 with h0 | h0
    · have := (digs_length_zero 1000000000 (by omega) Y).1 (by rw [O2.out.len, h0])
      have := HY.out
      omega
    · exact h0
  have GDX := Lib.hid (digs_lt 1000000000 (by omega) X)
  have GDY := Lib.hid (digs_lt 1000000000 (by omega) Y)
  have hm2b : ((m2 : Int) == 0) = false := by simp; omega
  have CG1 := natGood_c A1 m1 c1 _ w2 O1.out.limbs
  have CG2 := natGood_c A2 m2 c2 _ w2 O2.out.limbs
  rw [all_good GDX.out] at CG1
  rw [all_good GDY.out] at CG2
  have HG1 := Lib.hid CG1
  have HG2 := Lib.hid CG2
  clear CG1 CG2
  go_wp2_with fail
  refine HG1.out.mono ?_
  rintro e w' ⟨rfl, rfl⟩
  go_wp2_with fail
  refine HG2.out.mono ?_
  rintro e w' ⟨rfl, rfl⟩
  clear HG1 HG2
  have CC := cmp_c A1 A2 m1 c1 m2 c2 _ _ w2 O1.out.limbs O2.out.limbs GDX.out GDY.out
  rw [val_digs 1000000000 (by omega), val_digs 1000000000 (by omega)] at CC
  have hw2 : w.heap.size ≤ w2.heap.size := B.out.size
  by_cases hlt : X < Y
  · rw [cmpI_of_lt hlt] at CC
    have HCC := Lib.hid CC
    have HLT := Lib.hid hlt
    clear CC hlt
    go_wp2_with fail
    refine HCC.out.mono ?_
    rintro e w3 ⟨rfl, hb⟩
    have O3 := Lib.hid (O1.out.keep hb rfl)
    have B3 := Lib.hid (B.out.trans (hb.mono hw2))
    clear hb HCC
    go_wp2
    go_ret3
    refine ⟨none, 0, 0, A1, m1, c1, rfl, ?_, ?_, B3.out⟩
    · rw [HXX.out, HYY.out, Nat.div_eq_of_lt HLT.out, digs_zero]; exact ownS_nil _ _
    · rw [HXX.out, HYY.out, Nat.mod_eq_of_lt HLT.out]; exact O3.out
  · obtain ⟨r, hr0, hr⟩ : ∃ r : Int, 0 ≤ r ∧ cmpI X Y = r := by
      refine ⟨_, ?_, rfl⟩
      rw [cmpI, if_neg hlt]
      split <;> omega
    rw [hr] at CC
    have HCC := Lib.hid CC
    have HGE := Lib.hid (show Y ≤ X by omega)
    clear CC hlt hr
    by_cases h1 : m2 = 1
    · subst h1
      obtain ⟨y, hy⟩ : ∃ y, digs 1000000000 Y = [y] := List.length_eq_one_iff.1 O2.out.len
      have hyY : y = Y := by have := val_digs 1000000000 (by omega) Y; rw [hy] at this; simpa [val] using this
      have hyb : y < 1000000000 := GDY.out y (by rw [hy]; simp)
      have O2' := Lib.hid (hy ▸ O2.out)
      subst hyY
      have HYP := HY.out
      clear hy
      go_wp2_with fail
      refine HCC.out.mono ?_
      rintro e w3 ⟨rfl, hb⟩
      have O3 := Lib.hid (O1.out.keep hb rfl)
      have B3 := Lib.hid (B.out.trans (hb.mono hw2))
      have hw3 := hb.size
      have L3 := Lib.hid (O2'.out.keep hb rfl).limbs
      obtain ⟨ad, rfl, had, hc0, _⟩ := L3.out.at_ (k := 0) (by omega)
      have hc : w3.cell? ad = some (.int .u32 (y : Int)) := hc0
      clear hb HCC hc0
      have CS := divSmall_c A1 m1 c1 _ y w3 O3.out.limbs GDX.out (by omega) HYP hyb
      rw [val_digs 1000000000 (by omega)] at CS
      have HCS := Lib.hid CS
      have HMB := Lib.hid (Nat.mod_lt X HYP)
      clear CS
      go_wp2_with fail
      refine HCS.out.mono ?_
      rintro e w4 ⟨A4, m4, c4, rfl, ho, hb⟩
      have hw4 := hb.size
      have O4 := Lib.hid ho
      have B4 := Lib.hid (B3.out.trans (hb.mono (by omega)))
      clear ho hb HCS
      have L4 := Lib.hid (limbs_new w4 (X % y) (by have := HMB.out; omega) _ rfl)
      have hb4 := Lib.hid ((Below.refl w4.heap.size w4).alloc (Nat.le_refl _) (.cells #[.int .u32 ((X % y : Nat) : Int)] 49))
      have CT := trim_c _ 1 1 [X % y] _ L4.out (by omega)
      have gt : ∀ z ∈ [X % y], z < 1000000000 := by intro z hz; have := HMB.out; simp at hz; omega
      rw [trim_eq_digs 1000000000 (by omega) _ gt, show val 1000000000 [X % y] = X % y by simp [val], World.size_alloc] at CT
      have HCT := Lib.hid CT
      clear CT gt
      generalize hRR : X % y = R at *
      have HRR := Lib.hid hRR
      clear hRR
      go_wp2_with fail
      refine HCT.out.mono ?_
      rintro e w5 ⟨A5, m5, c5, rfl, ho, hb⟩
      have hb5 := Lib.hid (hb4.out.trans (hb.mono (by omega)))
      have O5 := Lib.hid (ho.weaken (by omega : w.heap.size ≤ w4.heap.size + 1))
      have O6 := Lib.hid ((O4.out.keep hb5.out rfl).weaken (by omega : w.heap.size ≤ w3.heap.size))
      have B5 := Lib.hid (B4.out.trans (hb5.out.mono (by omega)))
      clear ho hb HCT
      go_wp2
      go_ret3
      exact ⟨A4, m4, c4, A5, m5, c5, rfl, by rw [HXX.out, HYY.out]; exact O6.out, by rw [HXX.out, HYY.out, HRR.out]; exact O5.out, B5.out⟩
    · have h1b : ((m2 : Int) == 1) = false := by simp; omega
      have HLL := Lib.hid (show (digs 1000000000 Y).getD (m2 - 1) 0 ≠ 0 by
        have := tz_last (digs 1000000000 Y) (by rw [tz_digs 1000000000 (by omega), O2.out.len]; omega)
        rwa [tz_digs 1000000000 (by omega), O2.out.len] at this)
      go_wp2_with fail
      refine HCC.out.mono ?_
      rintro e w3 ⟨rfl, hb⟩
      have O3 := Lib.hid (O1.out.keep hb rfl)
      have P3 := Lib.hid (O2.out.keep hb rfl)
      have hw3 := hb.size
      have B3 := Lib.hid (B.out.trans (hb.mono hw2))
      clear hb HCC
      have CS := long_c A1 A2 m1 c1 m2 c2 _ _ w3 O3.out.limbs P3.out.limbs GDX.out GDY.out (by omega) (by omega) (by omega) HLL.out (by rw [val_digs 1000000000 (by omega), val_digs 1000000000 (by omega)]; exact HGE.out)
      rw [val_digs 1000000000 (by omega), val_digs 1000000000 (by omega)] at CS
      have HCS := Lib.hid CS
      clear CS
      go_wp2_with fail
      refine HCS.out.mono ?_
      rintro e w4 ⟨A4, m4, c4, A5, m5, c5, rfl, ho, ho', hb⟩
      have O4 := Lib.hid (ho.weaken (by omega : w.heap.size ≤ w3.heap.size))
      have O5 := Lib.hid (ho'.weaken (by omega : w.heap.size ≤ w3.heap.size))
      have B4 := Lib.hid (B3.out.trans (hb.mono (by omega)))
      clear ho ho' hb HCS
      go_wp2
      go_ret3
      exact ⟨A4, m4, c4, A5, m5, c5, rfl, by rw [HXX.out, HYY.out]; exact O4.out, by rw [HXX.out, HYY.out]; exact O5.out, B4.out⟩
end Go.Proofs.YtekanlcfgfllcaaDoor
