/-
  NR: the program's row, least, grouped.
-/
import Derived.Lib.MinMax
import Derived.Test.YtogipbgfnjbakaaDoorNQ
set_option maxRecDepth 100000
namespace Go.Proofs.YtogipbgfnjbakaaDoor
open Go.RowKit
set_option maxHeartbeats 2000000 in
theorem row_c (c : UInt8) (n : Int) (w : World) (hn : n ≤ 140737488355328) : Calls Tryd.prog 19 #[.string ⟨#[c]⟩, .int .i64 n] w fun e w' => e = .returned (.string (stz (List.replicate n.toNat c.toNat))) ∧ Below w.heap.size w w' := by
  have HC := Lib.hid (fun W => repeat_c c n.toNat W (by omega))
  obtain ⟨k, hk⟩ : ∃ k : Nat, n.toNat = k := ⟨_, rfl⟩
  rw [hk] at HC ⊢
  have hmx : max n 0 = (k : Int) := by omega
  go_enter Tryd.func19, Tryd.ntmps19
  go_wp2_with (go_at_call 48; refine (HC.out _).mono ?_; rintro e w1 ⟨rfl, hb⟩)
  go_ret
  exact ⟨rfl, hb⟩
/- Commas where they stand. -/
theorem cmZ_small {P S : Nat} {l : List Nat} (h : l.length < P) : cmZ P S l = l := by
  induction l with
  | nil => rfl
  | cons c t ih =>
    rw [List.length_cons] at h
    rw [cmZ, if_neg (by omega), ih (by omega)]; rfl
theorem cmZ_at {P S : Nat} (hP : 1 ≤ P) {b : List Nat} (hb : b.length = P) : cmZ P S b = 44 :: b := by
  cases b with
  | nil => simp at hb; omega
  | cons c t =>
    rw [List.length_cons] at hb
    rw [cmZ, if_pos ⟨by omega, .inl hb⟩, cmZ_small (by omega)]; rfl
theorem cmZ_same {P : Nat} (hP : 1 ≤ P) {b : List Nat} (hb : b.length = P) (a : List Nat) : cmZ P P (a ++ b) = a ++ 44 :: b := by
  induction a with
  | nil => exact cmZ_at hP hb
  | cons c t ih =>
    show cmZ P P (c :: (t ++ b)) = _
    rw [cmZ, if_neg (by rw [List.length_append]; omega), ih]; rfl
theorem cmZ_mid {P S : Nat} (hP : 1 ≤ P) {b : List Nat} (hb : b.length = P) {m : List Nat} (hm : m.length < S) : cmZ P S (m ++ b) = m ++ 44 :: b := by
  induction m with
  | nil => exact cmZ_at hP hb
  | cons c t ih =>
    rw [List.length_cons] at hm
    show cmZ P S (c :: (t ++ b)) = _
    rw [cmZ, if_neg (by rw [List.length_append]; omega), ih (by omega)]; rfl
theorem cmZ_two {P S : Nat} (hP : 1 ≤ P) (hS : 1 ≤ S) (hSP : S ≠ P) {b m : List Nat} (hb : b.length = P) (hm : m.length = S) (a : List Nat) : cmZ P S (a ++ (m ++ b)) = a ++ 44 :: (m ++ 44 :: b) := by
  induction a with
  | nil =>
    cases m with
    | nil => simp at hm; omega
    | cons x m' =>
      rw [List.length_cons] at hm
      show cmZ P S (x :: (m' ++ b)) = _
      rw [cmZ, if_pos ⟨by omega, .inr ⟨hSP, by rw [List.length_append]; omega⟩⟩, cmZ_mid hP hb (by omega)]; rfl
  | cons c t ih =>
    show cmZ P S (c :: (t ++ (m ++ b))) = _
    rw [cmZ, if_neg (by rw [List.length_append, List.length_append]; omega), ih]; rfl
theorem cmW_zero (S : Nat) (l : List Nat) : cmW 0 S l = l := by
  cases l with
  | nil => rfl
  | cons c t => rw [cmW, cmZ_nil_P]
theorem cmW_same {P : Nat} (hP : 1 ≤ P) {l : List Nat} (h : P < l.length) : cmW P P l = l.take (l.length - P) ++ 44 :: l.drop (l.length - P) := by
  cases l with
  | nil => simp at h
  | cons c t =>
    rw [List.length_cons] at h ⊢
    rw [cmW, show t.length + 1 - P = (t.length - P) + 1 by omega, List.take_succ_cons, List.drop_succ_cons]
    have := cmZ_same hP (b := t.drop (t.length - P)) (by rw [List.length_drop]; omega) (t.take (t.length - P))
    rw [List.take_append_drop] at this
    rw [this]; rfl
theorem cmW_two {P S : Nat} (hP : 1 ≤ P) (hS : 1 ≤ S) (hSP : S ≠ P) {l : List Nat} (h : P + S < l.length) : cmW P S l = l.take (l.length - P - S) ++ 44 :: ((l.take (l.length - P)).drop (l.length - P - S) ++ 44 :: l.drop (l.length - P)) := by
  cases l with
  | nil => simp at h
  | cons c t =>
    rw [List.length_cons] at h ⊢
    rw [cmW, show t.length + 1 - P - S = (t.length - P - S) + 1 by omega, show t.length + 1 - P = (t.length - P) + 1 by omega, List.take_succ_cons, List.take_succ_cons, List.drop_succ_cons, List.drop_succ_cons]
    have := cmZ_two hP hS hSP (b := t.drop (t.length - P)) (m := (t.take (t.length - P)).drop (t.length - P - S)) (by rw [List.length_drop]; omega) (by rw [List.length_drop, List.length_take]; omega) (t.take (t.length - P - S))
    show c :: cmZ P S t = c :: (t.take (t.length - P - S) ++ 44 :: ((t.take (t.length - P)).drop (t.length - P - S) ++ 44 :: t.drop (t.length - P)))
    rw [← this]
    congr 2
    rw [← List.append_assoc]
    have e : t.take (t.length - P - S) ++ (t.take (t.length - P)).drop (t.length - P - S) = t.take (t.length - P) := by
      conv => rhs; rw [← List.take_append_drop (t.length - P - S) (t.take (t.length - P)), List.take_take, Nat.min_eq_left (by omega)]
    rw [e, List.take_append_drop]
/-- A pattern's cells, written out. -/
theorem patV_def (x0 x1 x2 x3 x4 : Value) (p : NF) (y0 y1 y2 : Value) : patV x0 x1 x2 x3 x4 p y0 y1 y2 = #[x0, x1, x2, x3, x4, .int .i64 (p.minInt : Int), .int .i64 (p.maxInt : Int), .int .i64 (p.minFrac : Int), .int .i64 (p.maxFrac : Int), .int .i64 (p.minSig : Int), .int .i64 (p.maxSig : Int),
    .int .i64 (p.prim : Int), .int .i64 (p.sec : Int), .string (stz p.inc), .bool p.sci, .int .i64 (p.minExp : Int), .bool p.plus, y0, y1, y2] := rfl
set_option maxHeartbeats 2000000 in
theorem least_c (x0 x1 x2 x3 x4 y0 y1 y2 : Value) (p : NF) (w : World) (h7 : p.prim ≤ 40) (h8 : p.sec ≤ 40) : Calls Tryd.prog 47 #[.agg (patV x0 x1 x2 x3 x4 p y0 y1 y2)] w fun e w' => e = .returned (.int .i64 ((leastN p : Nat) : Int)) ∧ Below w.heap.size w w' := by
  have HL : Hid (leastN p = if (p.sci && decide (p.minSig = 0)) = true then p.maxInt else if 0 < p.prim then p.prim + 1 + (if p.sec ≠ p.prim then p.sec else 0) else if p.maxFrac = 0 then 1 else 0) := Lib.hid (by
    unfold leastN
    rw [show (p.minSig == 0) = decide (p.minSig = 0) from rfl])
  have HB := Lib.hid (below_new w (.cells (patV x0 x1 x2 x3 x4 p y0 y1 y2) 24))
  have hbx : BX (w.alloc (.cells (patV x0 x1 x2 x3 x4 p y0 y1 y2) 24)) w.heap.size (patV x0 x1 x2 x3 x4 p y0 y1 y2) 24 := BX.new _ _ _
  generalize hl : leastN p = ln at *
  clear hl
  go_enter Tryd.func47, Tryd.ntmps47
  go_upto_region 1 with fail
  generalize w.alloc (.cells (patV x0 x1 x2 x3 x4 p y0 y1 y2) 24) = W at *
  generalize hg : w.heap.size = g at *
  have Hg := Lib.hid hg
  clear hg
  have c6 : W.cell? ⟨g, 6, none⟩ = some (.int .i64 (p.maxInt : Int)) := hbx.c 6
  have c8 : W.cell? ⟨g, 8, none⟩ = some (.int .i64 (p.maxFrac : Int)) := hbx.c 8
  have c9 : W.cell? ⟨g, 9, none⟩ = some (.int .i64 (p.minSig : Int)) := hbx.c 9
  have c11 : W.cell? ⟨g, 11, none⟩ = some (.int .i64 (p.prim : Int)) := hbx.c 11
  have c12 : W.cell? ⟨g, 12, none⟩ = some (.int .i64 (p.sec : Int)) := hbx.c 12
  have c14 : W.cell? ⟨g, 14, none⟩ = some (.bool p.sci) := hbx.c 14
  clear hbx
  have hw1 : IntKind.i64.wrap ((p.prim : Int) + (p.sec : Int)) = (p.prim : Int) + (p.sec : Int) := IntWalk.i64_in _ (by omega)
  have hrest : ∀ b, (p.sci && decide (p.minSig = 0)) = b → b = false → ln = if 0 < p.prim then p.prim + 1 + (if p.sec ≠ p.prim then p.sec else 0) else if p.maxFrac = 0 then 1 else 0 := by
    intro b e1 e2
    have := HL.out
    rw [e1, e2] at this
    exact this
  have HR := Lib.hid hrest
  clear hrest
  by_cases hs : p.sci = true
  · by_cases h9 : p.minSig = 0
    · have g9 : ((p.minSig : Int) == 0) = true := by simp only [beq_iff_eq]; omega
      have hln := HL.out
      rw [hs, decide_eq_true h9] at hln
      simp only [Bool.and_self, if_true] at hln
      rw [hs] at c14
      clear h9 hs
      go_wp2
      go_ret
      rw [hln]
      exact ⟨rfl, Hg.out ▸ HB.out⟩
    · have g9 : ((p.minSig : Int) == 0) = false := by simp only [beq_eq_false_iff_ne, ne_eq]; omega
      have hln := HR.out _ rfl (by rw [decide_eq_false h9, Bool.and_false])
      rw [hs] at c14
      clear h9 hs
      by_cases hP : 0 < p.prim
      · have g1 : decide ((0 : Int) < (p.prim : Int)) = true := decide_eq_true (by omega)
        rw [if_pos hP] at hln
        by_cases hS : p.sec = p.prim
        · have g2 : ((p.sec : Int) != (p.prim : Int)) = false := by simp only [bne_eq_false_iff_eq]; omega
          rw [if_neg (fun e => e hS)] at hln
          have HN := Lib.hid (show (p.prim : Int) + 1 = (ln : Int) by omega)
          clear hS hln
          go_wp2
          go_ret
          rw [← HN.out]
          exact ⟨rfl, Hg.out ▸ HB.out⟩
        · have g2 : ((p.sec : Int) != (p.prim : Int)) = true := by simp only [bne_iff_ne, ne_eq]; omega
          rw [if_pos hS] at hln
          have HN := Lib.hid (show (p.prim : Int) + (p.sec : Int) + 1 = (ln : Int) by omega)
          clear hS hln
          go_wp2
          go_ret
          rw [← HN.out]
          exact ⟨rfl, Hg.out ▸ HB.out⟩
      · have g1 : decide ((0 : Int) < (p.prim : Int)) = false := decide_eq_false (by omega)
        rw [if_neg hP] at hln
        by_cases hF : p.maxFrac = 0
        · have g2 : ((p.maxFrac : Int) == 0) = true := by simp only [beq_iff_eq]; omega
          rw [if_pos hF] at hln
          clear hF
          go_wp2
          go_ret
          rw [hln]
          exact ⟨rfl, Hg.out ▸ HB.out⟩
        · have g2 : ((p.maxFrac : Int) == 0) = false := by simp only [beq_eq_false_iff_ne, ne_eq]; omega
          rw [if_neg hF] at hln
          clear hF
          go_wp2
          go_ret
          rw [hln]
          exact ⟨rfl, Hg.out ▸ HB.out⟩
  · rw [Bool.not_eq_true] at hs
    have hln := HR.out _ rfl (by rw [hs, Bool.false_and])
    rw [hs] at c14
    clear hs
    by_cases hP : 0 < p.prim
    · have g1 : decide ((0 : Int) < (p.prim : Int)) = true := decide_eq_true (by omega)
      rw [if_pos hP] at hln
      by_cases hS : p.sec = p.prim
      · have g2 : ((p.sec : Int) != (p.prim : Int)) = false := by simp only [bne_eq_false_iff_eq]; omega
        rw [if_neg (fun e => e hS)] at hln
        have HN := Lib.hid (show (p.prim : Int) + 1 = (ln : Int) by omega)
        clear hS hln
        go_wp2
        go_ret
        rw [← HN.out]
        exact ⟨rfl, Hg.out ▸ HB.out⟩
      · have g2 : ((p.sec : Int) != (p.prim : Int)) = true := by simp only [bne_iff_ne, ne_eq]; omega
        rw [if_pos hS] at hln
        have HN := Lib.hid (show (p.prim : Int) + (p.sec : Int) + 1 = (ln : Int) by omega)
        clear hS hln
        go_wp2
        go_ret
        rw [← HN.out]
        exact ⟨rfl, Hg.out ▸ HB.out⟩
    · have g1 : decide ((0 : Int) < (p.prim : Int)) = false := decide_eq_false (by omega)
      rw [if_neg hP] at hln
      by_cases hF : p.maxFrac = 0
      · have g2 : ((p.maxFrac : Int) == 0) = true := by simp only [beq_iff_eq]; omega
        rw [if_pos hF] at hln
        clear hF
        go_wp2
        go_ret
        rw [hln]
        exact ⟨rfl, Hg.out ▸ HB.out⟩
      · have g2 : ((p.maxFrac : Int) == 0) = false := by simp only [beq_eq_false_iff_ne, ne_eq]; omega
        rw [if_neg hF] at hln
        clear hF
        go_wp2
        go_ret
        rw [hln]
        exact ⟨rfl, Hg.out ▸ HB.out⟩
end Go.Proofs.YtogipbgfnjbakaaDoor
