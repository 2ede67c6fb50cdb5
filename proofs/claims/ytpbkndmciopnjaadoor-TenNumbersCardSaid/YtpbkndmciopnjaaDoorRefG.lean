import Derived.Test.YtpbkndmciopnjaaDoorRefF
import Derived.Test.YtpbkndmciopnjaaDoorOwn
import Derived.Test.YtpbkndmciopnjaaDoorMulMath
import Derived.IntWalk
namespace Go.Proofs.YtpbkndmciopnjaaDoor
open Go.RowKit
/-- Whole numbers as values. -/
def i64s (xs : List Nat) : List Value := xs.map fun (x : Nat) => Value.int .i64 (x : Int)
theorem i64s_length (xs : List Nat) : (i64s xs).length = xs.length := by simp [i64s]
theorem i64s_get (xs : List Nat) (k : Nat) : (i64s xs)[k]? = (xs[k]?).map fun (x : Nat) => Value.int .i64 (x : Int) := by simp [i64s]
theorem i64s_set (zs : List Nat) (k x : Nat) : i64s (zs.set k x) = (i64s zs).set k (.int .i64 (x : Int)) := by simp [i64s, List.map_set]
theorem i64_info : (Tryd.prog.info? 3).map (fun i => (i.zero, i.size, i.bytes)) = some (some (.int .i64 0), 1, 8) := by kernel_rfl
theorem made_i64 (k : Nat) : (madeCells #[Value.int .i64 0] k).toList = i64s (List.replicate k 0) := by
  simp only [madeCells, i64s, List.map_replicate, Array.toList_map, Array.toList_range]
  rw [List.eq_replicate_iff]
  refine ⟨by simp, fun b hb => ?_⟩
  obtain ⟨x, _, rfl⟩ := List.mem_map.1 hb
  have : x % (#[Value.int .i64 0] : Array Value).size = 0 := Nat.mod_one x
  rw [this]; rfl
theorem own_at64 {w : World} {base g N : Nat} {zs : List Nat} (h : w.ownsRow base 3 1 (.slice (some ⟨g, 0, none⟩) N N) N (i64s zs)) {j : Nat} (hj : j < N) : w.cell? ⟨g, j, none⟩ = some (.int .i64 ((zs.getD j 0 : Nat) : Int)) := by
  have hl : zs.length = N := by have := h.1; simpa [i64s_length] using this
  rw [h.cellAt j (by omega), i64s_get, List.getElem?_eq_getElem (by omega)]
  simp [List.getD, List.getElem?_eq_getElem (show j < zs.length by omega)]
theorem still_of {P : Program} {f : FuncId} {args : Array Value} {w : World} {v : Value} (h : Calls P f args w fun e w' => e = .returned v ∧ w = w') : Calls P f args w fun e w' => e = .returned v ∧ w' = w :=
  h.mono fun _ _ ⟨h1, h2⟩ => ⟨h1, h2.symm⟩
theorem dig_prod {X Y : Nat} (hx : X < 10) (hy : Y < 10) : X * Y ≤ 81 := Nat.mul_le_mul (show X ≤ 9 by omega) (show Y ≤ 9 by omega)
theorem times_step (o k V0 y x z v v' T : Nat) (hs : v' + 10 ^ (o + k) * z = v + 10 ^ (o + k) * (z + y * x)) (hv : v = V0 + 10 ^ o * (y * T)) : v' = V0 + 10 ^ o * (y * (T + 10 ^ k * x)) := by
  have := row_step 10 o k V0 y x z 0 (z + y * x) 0 v v' T hs (by simpa using hv) (by rw [Nat.mul_comm]; omega)
  simpa using this
end Go.Proofs.YtpbkndmciopnjaaDoor
