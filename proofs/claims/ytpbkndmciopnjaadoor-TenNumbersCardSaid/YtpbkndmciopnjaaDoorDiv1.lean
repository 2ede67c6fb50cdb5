import Derived.RangeFuncBox
import Derived.RangeFuncLeaves
import Derived.RangeFuncNested
import Derived.IntWalk
import Derived.Deep.RegionHeld3
import Derived.Shelf.Abstract
import Derived.Shelf.RegionOpen
import Derived.OwnWalkIn
import Derived.TacticsInMore
import Derived.LoopNIn
import Derived.LoopIn
import Derived.Test.YtpbkndmciopnjaaDoorDivMath
import Derived.Test.YtpbkndmciopnjaaDoorMul2
namespace Go.Proofs.YtpbkndmciopnjaaDoor
open Go.RowKit Go.Shelf
attribute [local go_sem] Oper.semAt_some
/-- What a round of a loop backwards keeps: what lay below g, and the iterator's own box. -/
def Kept (g Bs : Nat) (W W' : World) : Prop := Below g W W' ∧ W'.heap[Bs]? = W.heap[Bs]?
theorem Kept.trans {g Bs : Nat} {A B C : World} (h : Kept g Bs A B) (k : Kept g Bs B C) : Kept g Bs A C := ⟨h.1.trans k.1, k.2.trans h.2⟩
theorem kept_b {g Bs : Nat} {w : World} (hn : g ≤ w.heap.size) (hB : Bs < w.heap.size) (W : World) (l : Nat) (o o' : Obj) (hl : w.heap.size ≤ l) (h : W.heap[l]? = some o) (h1 : o.isCells = false) (h2 : o.isWalk = false) : Kept g Bs W (W.putObj l o') :=
  ⟨belowK_b hn W l o o' hl h h1 h2, World.putObj_heap_other (by omega)⟩
/-- A place in a slice of n. -/
abbrev Pl (n : Nat) := {i : Nat // i < n}
set_option maxRecDepth 100000 in
set_option maxHeartbeats 2000000 in
/-- slices.Backward's closure. -/
theorem back1_c (F : Fence) (m : Nat) (hF : F.fn 39) (hro : F.round = none) (hm : 1 ≤ m) (l Bs g : Nat) (A : Option Addr) (n c : Nat) (xs : List Nat) (hn : n ≤ 1000000000)
    (J Jx : List (Pl n) → World → Prop)
    (hY : ∀ pre x W, J pre W → pre.length < n → YieldAt F (m - 1) Tryd.prog l #[.int .i64 (x.1 : Int), .int .u32 ((xs.getD x.1 0 : Nat) : Int)] W fun e W' =>
      (e = .returned (.bool true) ∧ J (pre ++ [x]) W' ∧ Kept g Bs W W') ∨ (e = .returned (.bool false) ∧ Jx (pre ++ [x]) W'))
    (W : World) (hBs : Boxed W Bs 22 (.slice A n c)) (hR : Reads W g 1 A n (u32s xs)) (h0 : J [] W) :
    CallsIn F m Tryd.prog 39 #[.func (.yield l) #[] #[], .pointer (some ⟨Bs, 0, none⟩)] W fun e W' => (∃ v, e = .returned v) ∧
      ((∃ ys, ys.map (·.1) = downTo n n ∧ J ys W') ∨ (∃ pre, True ∧ Jx pre W')) := by
  have HR := Lib.hid hR
  have hcs := Lib.hid hBs
  have hbs0 := hBs.cell
  clear hR hBs
  refine callsIn_of_wp Tryd.func39 rfl hF ?_ hro
  simp only [Tryd.ntmps39, List.size_toArray, List.length_cons, List.length_nil, Nat.reduceAdd, Nat.reduceSub, Array.replicate_succ, Array.replicate_zero, List.push_toArray, List.append_toArray, List.nil_append, List.cons_append]
  gi_wp2
  gi_loopw [3] (fun i wr => ∃ (z : Int) (k : Nat) (pre : List (Pl n)), k ≤ n ∧ z = (n : Int) - 1 - (k : Int) ∧ i = .int .i64 z ∧ pre.map (·.1) = downTo n k ∧ J pre wr ∧ Kept g Bs W wr)
    (fun i _ => (intOf i + 1).toNat)
  case atStart => exact ⟨_, 0, [], Nat.zero_le _, by omega, rfl, rfl, h0, Below.refl _ _, rfl⟩
  case round =>
    obtain ⟨z, k, pre, hk, hz, rfl, hpre0, hJs, hnx0⟩ := hrel
    have HP := Lib.hid hpre0
    have HB := Lib.hid hnx0
    have hbs : wr.cell? ⟨Bs, 0, none⟩ = some (.slice A n c) := Boxed.cell (hnx0.2.trans hcs.out)
    clear hpre0 hnx0 hbs0
    by_cases hlt : k < n
    · obtain ⟨i, hi⟩ : ∃ i : Nat, i = n - 1 - k := ⟨_, rfl⟩
      obtain rfl : z = (i : Int) := by omega
      have hin : i < n := by omega
      have HI := Lib.hid hi
      clear hz hi
      have hlen : pre.length < n := by
        have := congrArg List.length HP.out
        simp [downTo] at this
        omega
      obtain ⟨ad, rfl, hb, hc⟩ := reads_at (HR.out.below HB.out.1) hin
      obtain ⟨fn, tmps, assign, body, hy, hRo⟩ := hY pre ⟨i, hin⟩ wr hJs hlen
      dsimp only at hy
      generalize xs.getD i 0 = X at hc hy
      gi_wp2
      refine hRo.mono ?_
      rintro e W3 (⟨rfl, hJ3, hk3⟩ | ⟨rfl, hJx3⟩)
      · have HB3 := Lib.hid (HB.out.trans hk3)
        clear hk3
        gi_wp2
        go_roundw
        case rel => exact ⟨_, k + 1, pre ++ [⟨i, hin⟩], by omega, by have := HI.out; omega, rfl, by rw [downTo_succ, List.map_append, HP.out, ← HI.out]; rfl, hJ3, HB3.out⟩
        case measure => simp [intOf]
      · gi_wp2
        refine bodyPost_ret (results_none rfl _ _ _) rfl ?_
        exact ⟨⟨_, rfl⟩, .inr ⟨_, trivial, hJx3⟩⟩
    · obtain rfl : k = n := by omega
      obtain rfl : z = -1 := by omega
      clear hz
      gi_wp2
      go_end0
      exact ⟨⟨_, rfl⟩, .inl ⟨_, HP.out, hJs⟩⟩
/-- slices.Backward(s) hands back a value that goes through all places from above. -/
theorem back_stops (m : Nat) (hm : 1 ≤ m) (Bs g : Nat) (A : Option Addr) (n c : Nat) (xs : List Nat) (hn : n ≤ 1000000000) (w : World) (hg : g ≤ w.heap.size) (hBs : Boxed w Bs 22 (.slice A n c)) (hR : Reads w g 1 A n (u32s xs)) :
    SeqStopsK Fence.wide m Tryd.prog 39 #[.pointer (some ⟨Bs, 0, none⟩)] (fun x : Pl n => #[Value.int .i64 (x.1 : Int), .int .u32 ((xs.getD x.1 0 : Nat) : Int)]) (Kept g Bs)
      (fun ys => ys.map (·.1) = downTo n n) (fun _ => True) n w := fun l J Jx W hW _ _ hY h0 =>
  back1_c Fence.wide m trivial rfl hm l Bs g A n c xs hn J Jx hY W ((hW.block Bs hBs.lt).trans hBs) (hR.below (hW.mono hg)) h0
set_option maxHeartbeats 1000000 in
theorem backward_c (A : Option Addr) (n c : Nat) (w : World) :
    Calls Tryd.prog 34 #[.slice A n c] w fun e w' => e = .returned (.func (.func 39) #[] #[.pointer (some ⟨w.heap.size, 0, none⟩)]) ∧ w.alloc (.cells #[.slice A n c] 22) = w' := by
  go_enter Tryd.func34, Tryd.ntmps34
  go_wp2
  go_ret
  exact ⟨rfl, rfl⟩
end Go.Proofs.YtpbkndmciopnjaaDoor
