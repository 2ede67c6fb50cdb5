import Derived.Test.YtpbkndmciopnjaaDoorTen6
import Derived.Test.YtpbkndmciopnjaaDoorDiv1
import Derived.RangeFuncCalls
namespace Go.Proofs.YtpbkndmciopnjaaDoor
open Go.RowKit Go.Shelf
attribute [local go_sem] Oper.semAt_some
/-- What a round keeps: what lay below g, and each row of limbs. -/
def KeptR (g : Nat) (W W' : World) : Prop := Below g W W' ∧ ∀ (k : Nat) cs fz, W.heap[k]? = some (Obj.cells cs 39 fz) → W'.heap[k]? = some (Obj.cells cs 39 fz)
theorem KeptR.refl (g : Nat) (W : World) : KeptR g W W := ⟨Below.refl _ _, fun _ _ _ h => h⟩
theorem KeptR.trans {g : Nat} {A B C : World} (h : KeptR g A B) (k : KeptR g B C) : KeptR g A C := ⟨h.1.trans k.1, fun j cs fz hj => k.2 j cs fz (h.2 j cs fz hj)⟩
theorem keptR_b {g : Nat} {w : World} (hn : g ≤ w.heap.size) (W : World) (l : Nat) (o o' : Obj) (hl : w.heap.size ≤ l) (h : W.heap[l]? = some o) (h1 : o.isCells = false) (h2 : o.isWalk = false) : KeptR g W (W.putObj l o') :=
  ⟨belowK_b hn W l o o' hl h h1 h2, fun k cs fz hk => (World.putObj_heap_other (fun e => by subst e; rw [h] at hk; cases hk; cases h1)).trans hk⟩
theorem own_keptR {g base n : Nat} {W W' : World} {v : Value} {xs : List Value} (h : W.ownsRow base 39 1 v n xs) (hk : KeptR g W W') : W'.ownsRow base 39 1 v n xs := by
  refine ⟨h.1, ?_⟩
  rcases h.2 with h' | ⟨gb, cap, cur, h1, h2, h3, h4⟩
  · exact .inl h'
  · exact .inr ⟨gb, cap, cur, h1, h2, hk.2 _ _ _ h3, h4⟩
theorem grown_of_below {W W' : World} {B : Nat} (h : Below B W W') (hB : B = W.heap.size) : W.grownBy W' none := by
  subst hB
  exact ⟨h.os, h.tape, h.output, h.size, fun k hk _ => h.block k hk⟩
set_option maxRecDepth 100000 in
set_option maxHeartbeats 2000000 in
/-- fromEnd's closure. -/
theorem end1_c (m : Nat) (l Bs g : Nat) (A : Option Addr) (n c : Nat) (xs : List Nat) (hn : n ≤ 1000000000)
    (J Jx : List (Pl (tz xs)) → World → Prop) (W : World) (hJ : AbidesFrom W.heap.size J)
    (hY : ∀ pre x W, J pre W → pre.length < tz xs → YieldAt Fence.wide (m - 1) Tryd.prog l #[.int .u32 (((trim xs).getD x.1 0 : Nat) : Int)] W fun e W' =>
      (e = .returned (.bool true) ∧ J (pre ++ [x]) W' ∧ KeptR g W W') ∨ (e = .returned (.bool false) ∧ Jx (pre ++ [x]) W'))
    (hBs : Boxed W Bs 22 (.slice A n c)) (hR : Limbs W A n xs) (h0 : J [] W) :
    CallsIn Fence.wide m Tryd.prog 29 #[.func (.yield l) #[] #[], .pointer (some ⟨Bs, 0, none⟩)] W fun e W' => (∃ v, e = .returned v) ∧
      ((∃ ys, ys.map (·.1) = downTo (tz xs) (tz xs) ∧ J ys W') ∨ (∃ pre, True ∧ Jx pre W')) := by
  have CT := trim_c A n c xs W hR hn
  have hbs0 := hBs.cell
  have hT : tz xs ≤ 1000000000 := by
    have := tz_le xs
    rw [hR.len] at this
    omega
  have HCT := Lib.hid CT
  have HJ := Lib.hid hJ
  have H0 := Lib.hid h0
  clear hR hBs CT hJ h0
  refine callsIn_of_wp Tryd.func29 rfl trivial ?_ rfl
  simp only [Tryd.ntmps29, List.size_toArray, List.length_cons, List.length_nil, Nat.reduceAdd, Nat.reduceSub, Array.replicate_succ, Array.replicate_zero, List.push_toArray, List.append_toArray, List.nil_append, List.cons_append]
  gi_wp2
  refine ⟨trivial, fun h => (by cases h), (callsIn_wide.2 HCT.out).mono ?_⟩
  rintro e W1 ⟨A1, m1, c1, rfl, ho1, hb1⟩
  obtain rfl : m1 = tz xs := by rw [← ho1.len, trim_length]
  have HO1 := Lib.hid ho1
  have HB1 := Lib.hid hb1
  have HJ1 := Lib.hid (HJ.out [] W W1 none H0.out (grown_of_below hb1 rfl) (fun r e => by cases e))
  clear ho1 hb1 HCT hbs0
  generalize hys : trim xs = ys at *
  have HYS := Lib.hid hys
  clear hys
  generalize tz xs = T at *
  gi_wp2
  gi_loopw [4] (fun i wr => ∃ (z : Int) (k : Nat) (pre : List (Pl T)), k ≤ T ∧ z = (T : Int) - 1 - (k : Int) ∧ i = .int .i64 z ∧ pre.map (·.1) = downTo T k ∧ J pre wr ∧ KeptR g W1 wr)
    (fun i _ => (intOf i + 1).toNat)
  case atStart => exact ⟨_, 0, [], Nat.zero_le _, by omega, rfl, rfl, HJ1.out, KeptR.refl _ _⟩
  case round =>
    obtain ⟨z, k, pre, hk, hz, rfl, hpre0, hJs, hnx0⟩ := hrel
    have HP := Lib.hid hpre0
    have HB := Lib.hid hnx0
    clear hpre0 hnx0
    by_cases hlt : k < T
    · obtain ⟨i, hi⟩ : ∃ i : Nat, i = T - 1 - k := ⟨_, rfl⟩
      obtain rfl : z = (i : Int) := by omega
      have hin : i < T := by omega
      have HI := Lib.hid hi
      clear hz hi
      have hlen : pre.length < T := by
        have := congrArg List.length HP.out
        simp [downTo] at this
        omega
      have hbnd : ys.getD i 0 < 4294967296 := by
        have hi' : i < ys.length := by rw [HO1.out.len]; exact hin
        rw [List.getD, List.getElem?_eq_getElem hi']
        exact HO1.out.2.2 _ (List.getElem_mem hi')
      obtain ⟨ad, rfl, hb, hc⟩ := reads_at (Reads.of_own (own_keptR HO1.out.1 HB.out)) hin
      obtain ⟨fn, tmps, assign, body, hy, hRo⟩ := hY pre ⟨i, hin⟩ wr hJs hlen
      dsimp only at hy
      generalize ys.getD i 0 = X at *
      gi_wp2
      refine ⟨fun h => (by cases h), hRo.mono ?_⟩
      rintro e W3 (⟨rfl, hJ3, hk3⟩ | ⟨rfl, hJx3⟩)
      · have HB3 := Lib.hid (HB.out.trans hk3)
        clear hk3
        gi_wp2
        go_roundw
        case rel => exact ⟨_, k + 1, pre ++ [⟨i, hin⟩], by omega, by have := HI.out; omega, rfl, by rw [downTo_succ, List.map_append, HP.out, ← HI.out]; rfl, hJ3, HB3.out⟩
        case measure => simp [intOf]
      · gi_wp2
        refine bodyPost_ret (results_none rfl _ _ _) rfl ?_
        exact ⟨⟨_, rfl⟩, .inr ⟨_, trivial, hJx3⟩⟩
    · obtain rfl : k = T := by omega
      obtain rfl : z = -1 := by omega
      clear hz
      gi_wp2
      go_end0
      exact ⟨⟨_, rfl⟩, .inl ⟨_, HP.out, hJs⟩⟩
/-- fromEnd(a) hands back a value that goes through all limbs from above. -/
theorem end_stops (m : Nat) (Bs g : Nat) (A : Option Addr) (n c : Nat) (xs : List Nat) (hn : n ≤ 1000000000) (w : World) (hBs : Boxed w Bs 22 (.slice A n c)) (hR : Limbs w A n xs) :
    SeqStopsK Fence.wide m Tryd.prog 29 #[.pointer (some ⟨Bs, 0, none⟩)] (fun x : Pl (tz xs) => #[Value.int .u32 (((trim xs).getD x.1 0 : Nat) : Int)]) (KeptR g)
      (fun ys => ys.map (·.1) = downTo (tz xs) (tz xs)) (fun _ => True) (tz xs) w := fun l J Jx W hW hJ _ hY h0 =>
  end1_c m l Bs g A n c xs hn J Jx W hJ hY ((hW.block Bs hBs.lt).trans hBs) (hR.below hW) h0
set_option maxHeartbeats 1000000 in
theorem fromEnd_c (A : Option Addr) (n c : Nat) (w : World) :
    Calls Tryd.prog 23 #[.slice A n c] w fun e w' => e = .returned (.func (.func 29) #[] #[.pointer (some ⟨w.heap.size, 0, none⟩)]) ∧ w.alloc (.cells #[.slice A n c] 22) = w' := by
  go_enter Tryd.func23, Tryd.ntmps23
  go_wp2
  go_ret
  exact ⟨rfl, rfl⟩
end Go.Proofs.YtpbkndmciopnjaaDoor
