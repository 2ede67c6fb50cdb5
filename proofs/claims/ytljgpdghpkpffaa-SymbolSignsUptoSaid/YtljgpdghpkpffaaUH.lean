/-
  UH: the contracts of digit.
-/
import Derived.Test.YtljgpdghpkpffaaUE
import Derived.Test.YtljgpdghpkpffaaUG
import Derived.IntWalk
set_option maxRecDepth 100000
namespace Go.Proofs.Ytljgpdghpkpffaa
open Go.RowKit
/-- 'out = append(out, x)' of one byte, out nil or the call's own; what else there is stays. -/
theorem wpList_app_u8k {W w0 : World} {ops : Array Oper} {rest : List Oper} {o : Oper} {a : Act} {Q : Exit → Act → World → Prop} (hgd : o.guard = none) (s x : Operand) (t : TypeId)
    (ho : o.op = .call { callee := .builtin .append, args := #[s, x], argTypes := #[t, t] }) (ht : Try.prog.underlying t = some (.slice 5))
    (base : Nat) (v : Value) (k : Nat) (xs : List Nat) (hs : a.eval s = v) (hown : W.ownsRow base 5 1 v k (u8s xs)) (E : Int)
    (hx : a.eval x = .slice (some ⟨W.heap.size, 0, none⟩) 1 1) (X : Nat) (hE : E = (X : Int)) (hk : k ≤ 100000000000) (hb : Below base w0 W) (hbase : base ≤ W.heap.size)
    (h : ∀ v' w', Hid (w'.ownsRow base 5 1 v' (k + 1) (u8s (xs ++ [X]))) → Hid (Below base w0 w') → Hid (∀ k, k < W.heap.size → v.ownBlock ≠ some k → w'.heap[k]? = W.heap[k]?) → wpList Try.prog ops Q rest (a.put o.dst v') w') :
    wpList Try.prog ops Q (o :: rest) a (W.alloc (.cells #[.int .u8 E] 5)) := by
  obtain ⟨i0, hi, hz0, hz1, hz2⟩ := info_parts u8_info
  subst hE
  refine wpList_append_own _ hgd s x t ho base 5 i0 (.int .u8 0) 1 1 ht hi hz0 hz1 hz2 rfl (by decide) v k _ hs (hown.alloc _) ⟨W.heap.size, 0, none⟩ 1 1 [.int .u8 (X : Int)] hx rfl (cells_one W _ _) ?_ ?_ ?_ ?_ ?_
  · simp [Value.oneCell']
  · unfold maxLen; omega
  · omega
  · simp; omega
  · intro v' w' h1 h2 _
    refine h v' w' ?_ ?_ ?_
    · rw [u8s_append]; exact h1
    · refine (hb.alloc hbase _).grown h2 (by simp; omega) fun j hj => ?_
      exact (hown.lt j hj).1
    · intro k hk hne
      rw [h2.block k (by simp; omega) (fun e => hne e.symm)]
      show (W.heap.push _)[k]? = _
      rw [Array.getElem?_push_lt hk, Array.getElem?_eq_getElem hk]
set_option maxHeartbeats 400000 in
theorem digitGood_c (z : Int) (w : World) (h : -2147483648 ≤ z ∧ z ≤ 2147483647) : Calls Try.prog 18 #[.int .i32 z] w fun e w' => e = .returned (.bool (sysZ z)) ∧ w = w' := by
  go_enter Try.func18, Try.ntmps18
  go_wp2
  go_loopw [4] (fun i wr => ∃ k : Nat, k ≤ 10 ∧ i = .int .i32 (k : Int) ∧ wr = w ∧ ∀ j : Nat, j < k → isZ (z + (j : Int)) = true) (fun i _ => 10 - (intOf i).toNat)
  case atStart => exact ⟨0, by omega, rfl, rfl, fun j hj => absurd hj (by omega)⟩
  case round =>
    obtain ⟨k, hk, rfl, rfl, ha0⟩ := hrel
    by_cases hlt : k < 10
    · have hb : -2147483648 ≤ z + (k : Int) ∧ z + (k : Int) ≤ 2147483647 := by
        rcases Nat.eq_zero_or_pos k with hz | hp
        · subst hz; omega
        · have := isZ_iff.1 (ha0 (k - 1) (by omega)); omega
      have hw : IntKind.i32.wrap (z + (k : Int)) = z + (k : Int) := IntWalk.i32_in _ (by omega)
      have HA := Lib.hid ha0
      clear ha0
      go_wp2_with fail
      refine (utfScalar_c (z + (k : Int)) _).mono ?_
      rintro e w' ⟨rfl, rfl⟩
      rcases hzk : isZ (z + (k : Int)) with _ | _
      · have HN := Lib.hid (sysZ_no hlt hzk)
        clear hzk
        go_wp2
        go_ret
        rw [HN.out]
        exact ⟨rfl, rfl⟩
      · have HY := Lib.hid hzk
        clear hzk
        go_wp2
        go_roundw
        case rel =>
          refine ⟨k + 1, by omega, by go_num, trivial, fun j hj => ?_⟩
          rcases Nat.lt_or_ge j k with hjk | hjk
          · exact HA.out j hjk
          · obtain rfl : j = k := by omega
            exact HY.out
        case measure => simp [intOf]; omega
    · have HS := Lib.hid (sysZ_all (z := z) fun j hj => ha0 j (by omega))
      clear ha0
      obtain rfl : k = 10 := by omega
      go_wp2
      go_ret
      rw [HS.out]
      exact ⟨rfl, rfl⟩
end Go.Proofs.Ytljgpdghpkpffaa
