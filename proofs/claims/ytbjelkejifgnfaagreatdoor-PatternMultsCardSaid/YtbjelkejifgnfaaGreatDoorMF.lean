/-
  MF: NU, NV, NW.
-/
import Derived.ChangeKeysEq
import Derived.Test.YtbjelkejifgnfaaGreatDoorME
/- NU -/
/-
  NU: the program's same, told, Print.
-/
set_option maxRecDepth 100000
namespace Go.Proofs.YtbjelkejifgnfaaGreatDoor
open Go.RowKit
/-- Two patterns' boxes, made when the call began. -/
structure GX2 (w0 W : World) (g : Nat) (vs us : Array Value) : Prop where
  b : Below w0.heap.size w0 W
  bx : BX W g vs 25
  by_ : BX W (g + 1) us 25
section
variable {w0 W : World} {g : Nat} {vs us : Array Value}
theorem GX2.below {W' : World} (x : GX2 w0 W g vs us) (hb : Below W.heap.size W W') : GX2 w0 W' g vs us := ⟨x.b.trans (hb.mono x.b.size), x.bx.below hb x.bx.lt, x.by_.below hb x.by_.lt⟩
theorem GX2.drew (x : GX2 w0 W g vs us) : GX2 w0 W.drew g vs us := ⟨x.b.drew, x.bx, x.by_⟩
theorem GX2.new (w0 : World) (vs us : Array Value) : GX2 w0 ((w0.alloc (.cells vs 25)).alloc (.cells us 25)) w0.heap.size vs us :=
  ⟨((Below.refl _ _).alloc (Nat.le_refl _) _).alloc (by simp) _, (BX.new w0 vs _).alloc _, by have := BX.new (w0.alloc (.cells vs 25)) us 25; simpa using this⟩
end
theorem pr_bts {p : NF} (h : OkN p) (m : Nat) : bts (stz (prN p m)) = prN p m := bts_stz fun c hc => by
  rw [prN] at hc
  rcases List.mem_append.1 hc with hc | hc
  · rcases cmW_mem _ _ c hc with rfl | hc
    · decide
    · have := whl_ok h m c hc
      simp only [okW, h35, a64, dg, Bool.or_eq_true, Bool.and_eq_true, decide_eq_true_iff, beq_iff_eq] at this
      omega
  · rcases List.mem_append.1 hc with hc | hc
    · split at hc
      · rcases List.mem_cons.1 hc with rfl | hc
        · decide
        · have := dg_ne (frc_ok h c hc)
          rcases frc_ok h c hc with e | e
          · have := dg_iff.1 e; omega
          · simp only [h35, beq_iff_eq] at e; omega
      · cases hc
    · split at hc
      · rcases List.mem_cons.1 hc with rfl | hc
        · decide
        · unfold expN at hc
          rcases List.mem_append.1 hc with hc | hc
          · split at hc
            · have : c = 43 := by simpa using hc
              omega
            · cases hc
          · have := (List.mem_replicate.1 hc).2; omega
      · cases hc

theorem GX2.S {w0 W : World} {g : Nat} {x0 x1 x2 x3 x4 y0 y1 y2 u0 u1 u2 u3 u4 v0 v1 v2 : Value} {p : NF} (x : GX2 w0 W g (patV x0 x1 x2 x3 x4 p y0 y1 y2) (patV u0 u1 u2 u3 u4 p v0 v1 v2)) : Hid (GX2 w0 W g (patV x0 x1 x2 x3 x4 p y0 y1 y2) (patV u0 u1 u2 u3 u4 p v0 v1 v2)) ∧ W.cell? ⟨g, 13, none⟩ = some (.string (stz p.inc)) ∧ W.cell? ⟨g, 14, none⟩ = some (.bool p.sci) ∧ W.cell? ⟨g, 16, none⟩ = some (.bool p.plus) ∧ W.cell? ⟨g + 1, 13, none⟩ = some (.string (stz p.inc)) ∧ W.cell? ⟨g + 1, 14, none⟩ = some (.bool p.sci) ∧ W.cell? ⟨g + 1, 16, none⟩ = some (.bool p.plus) :=
  ⟨Lib.hid x, x.bx.c 13, x.bx.c 14, x.bx.c 16, x.by_.c 13, x.by_.c 14, x.by_.c 16⟩
theorem eq_cnt (p : NF) (w : World) : (Op.equalIn 10000 180 (.agg (cntV p)) (.agg (cntV p))).run Tryz.prog w = .ok true w := by
  have hi : Tryz.prog.info? 3 = some ((Tryz.prog.info? 3).getD default) := by kernel_rfl
  have hc : Tryz.prog.cellsOf 3 = 1 := by kernel_rfl
  have hk : Tryz.prog.plainKey 3 = true := by kernel_rfl
  have hp : ∀ k v, (cntV p)[k]? = some v → (part 3 (cntV p) k).run Tryz.prog w = .ok v w := fun k v h => run_part_plain w hk h
  have he : ∀ a : Int, (Op.equalIn 9999 3 (.int .i64 a) (.int .i64 a)).run Tryz.prog w = .ok true w := fun a => by
    rw [run_equalIn_int w 9998 3 .i64 .i64 a a Tryz.underlying3, beq_self_eq_true]
  rw [run_equalIn_array w 9999 _ _ Tryz.underlying180 hi, hc]
  simp only [List.range, List.range.loop, Op.eqItems, Sem.run_bind, Nat.mul_one, hp 0 (.int .i64 (p.minInt : Int)) rfl, hp 1 (.int .i64 (p.maxInt : Int)) rfl, hp 2 (.int .i64 (p.minFrac : Int)) rfl, hp 3 (.int .i64 (p.maxFrac : Int)) rfl, hp 4 (.int .i64 (p.minSig : Int)) rfl, hp 5 (.int .i64 (p.maxSig : Int)) rfl, hp 6 (.int .i64 (p.prim : Int)) rfl, hp 7 (.int .i64 (p.sec : Int)) rfl, hp 8 (.int .i64 (p.inc.length : Int)) rfl, hp 9 (.int .i64 (p.minExp : Int)) rfl, Result.andThen_ok, he, Bool.not_true, Bool.false_eq_true, if_false, Sem.run_pure]
theorem exec_eq_cnt (p : NF) {o : Oper} {ev : Operand → Value} (w : World) {x y : Operand} (ho : o.op = .binOp .eql 180 x y 180) (hx : ev x = .agg (cntV p)) (hy : ev y = .agg (cntV p)) : (execOp ev o).run Tryz.prog w = .ok (.value (.bool true)) w := by
  have he := eq_cnt p w
  generalize cntV p = V at *
  unfold execOp
  simp only [ho, hx, hy]
  go_simp
theorem wpList_load_row_w {P : Program} {ops : Array Oper} {rest : List Oper} {o : Oper} {a : Act} {w : World} {Q : Exit → Act → World → Prop} (hw : Region.wanted o (yielded ops a.tmps) = true) (ty : TypeId) (x : Operand) (ho : o.op = .load ty x)
    (g : Nat) (hx : a.eval x = .pointer (some ⟨g, 0, none⟩)) (t : TypeId) (cs : Array Value) (fr : Nat × Nat) (d : TypeDesc) (hg : w.heap[g]? = some (.cells cs t fr))
    (hu : P.underlying ty = some d) (hd : (match d with | .struct _ | .array _ _ => true | _ => false) = true) (hi : (P.info? ty).map (·.size) = some cs.size)
    (h : wpList P ops Q rest (a.put o.dst (.agg cs)) w) : wpList P ops Q (o :: rest) a w :=
  wpList_step fun K hK => by rw [if_pos hw]; exact wp_load_row ty x ho g hx t cs fr d hg hu hd hi (hK _ _ h)
theorem OkN.within {p : NF} (h : OkN p) : (cntN p).any (fun k => decide (40 < k)) = false := by
  obtain ⟨b1, b2, b3, b4, b5, b6, b7, b8, b9, b10⟩ := h.small
  have hb := h.big
  simp only [bigN, Bool.or_eq_false_iff, decide_eq_false_iff_not] at hb
  have hi := hb.2
  refine any_false fun c hc => decide_eq_false ?_
  simp only [cntN, List.mem_cons, List.not_mem_nil, or_false] at hc
  rcases hc with rfl | rfl | rfl | rfl | rfl | rfl | rfl | rfl | rfl | rfl <;> omega
end Go.Proofs.YtbjelkejifgnfaaGreatDoor
/- NV -/
/-
  NV: the document's SameFields, SamePattern of alike ones; answers.
-/
set_option maxRecDepth 100000
namespace Go.Proofs.YtbjelkejifgnfaaGreatDoor
open Go.RowKit
set_option maxHeartbeats 2000000 in
theorem sameF_c (x0 x1 x2 x3 x4 y0 y1 y2 u0 u1 u2 u3 u4 v0 v1 v2 : Value) (a5 a6 a7 a8 a9 a10 a11 a12 a15 : Int) (a13 : ByteArray) (a14 a16 : Bool) (w : World) :
    Calls Tryz.prog 29 #[.agg #[x0, x1, x2, x3, x4, .int .i64 a5, .int .i64 a6, .int .i64 a7, .int .i64 a8, .int .i64 a9, .int .i64 a10, .int .i64 a11, .int .i64 a12, .string a13, .bool a14, .int .i64 a15, .bool a16, y0, y1, y2],
      .agg #[u0, u1, u2, u3, u4, .int .i64 a5, .int .i64 a6, .int .i64 a7, .int .i64 a8, .int .i64 a9, .int .i64 a10, .int .i64 a11, .int .i64 a12, .string a13, .bool a14, .int .i64 a15, .bool a16, v0, v1, v2]] w fun e w' => e = .returned (.bool true) ∧ Below w.heap.size w w' := by
  go_enter Tryz.func29, Tryz.ntmps29
  go_wp2
  go_ret
  exact ⟨rfl, ((Below.refl _ _).alloc (Nat.le_refl _) _).alloc (by simp) _⟩
end Go.Proofs.YtbjelkejifgnfaaGreatDoor
/- NW -/
/-
  NW: the document's SamePattern of alike ones; answers.
-/
set_option maxRecDepth 100000
namespace Go.Proofs.YtbjelkejifgnfaaGreatDoor
open Go.RowKit
theorem sameI0_c (w : World) : Calls Tryz.prog 16 #[.slice none 0 0, .slice none 0 0] w fun e w' => e = .returned (.bool true) ∧ w = w' := by
  go_enter Tryz.func16, Tryz.ntmps16
  go_wp2
  go_loopw [5] (fun iv wr => iv = .int .i64 0 ∧ wr = w) (fun _ _ => 0)
  case atStart => exact ⟨rfl, rfl⟩
  case round =>
    obtain ⟨rfl, rfl⟩ := hrel
    go_wp2
    go_ret
    exact ⟨rfl, rfl⟩
set_option maxHeartbeats 4000000 in
theorem sameP_c (p : NF) (w : World) : Calls Tryz.prog 12 #[.agg (patN p), .agg (patN p)] w fun e w' => e = .returned (.bool true) ∧ Below w.heap.size w w' := by
  have HX := Lib.hid (GX2.new w (patN p) (patN p))
  have HF : Hid (∀ W, Calls Tryz.prog 29 #[.agg (patN p), .agg (patN p)] W fun e w' => e = .returned (.bool true) ∧ Below W.heap.size W w') := Lib.hid (fun W => sameF_c _ _ _ _ _ _ _ _ _ _ _ _ _ _ _ _ _ _ _ _ _ _ _ _ _ _ _ _ W)
  have hsz : (Tryz.prog.info? 25).map (·.size) = some (patN p).size := pat_size ..
  have HV : Hid ((patN p)[0]? = some (.slice none 0 0) ∧ (patN p)[1]? = some (.slice none 0 0) ∧ (patN p)[2]? = some (.bool false) ∧ (patN p)[3]? = some (.slice none 0 0) ∧ (patN p)[4]? = some (.slice none 0 0) ∧ (patN p)[17]? = some (.int .i64 0) ∧ (patN p)[18]? = some (.int .i32 0) ∧ (patN p)[19]? = some (.int .i64 0)) := Lib.hid ⟨rfl, rfl, rfl, rfl, rfl, rfl, rfl, rfl⟩
  generalize patN p = PV at *
  go_enter Tryz.func12, Tryz.ntmps12
  go_upto_region 1 with fail
  generalize (w.alloc (.cells PV 25)).alloc (.cells PV 25) = W at *
  generalize hg : w.heap.size = g at *
  have Hg := Lib.hid hg
  clear hg
  have hbx := HX.out.bx
  have hby := HX.out.by_
  go_wp2_with (first
    | (refine wpList_load_row rfl 25 _ rfl g rfl 25 PV (0, 0) _ hbx Tryz.underlying25 rfl hsz ?_)
    | (refine wpList_load_row rfl 25 _ rfl (g + 1) rfl 25 PV (0, 0) _ hby Tryz.underlying25 rfl hsz ?_)
    | (go_at_call 29; refine (HF.out _).mono ?_; rintro e w1 ⟨rfl, hb⟩; have HX := Lib.hid (HX.out.below hb); have c0 := (HX.out.bx.c 0).trans HV.out.1; have c1 := (HX.out.bx.c 1).trans HV.out.2.1; have c2 := (HX.out.bx.c 2).trans HV.out.2.2.1; have c3 := (HX.out.bx.c 3).trans HV.out.2.2.2.1; have c4 := (HX.out.bx.c 4).trans HV.out.2.2.2.2.1; have c17 := (HX.out.bx.c 17).trans HV.out.2.2.2.2.2.1; have c18 := (HX.out.bx.c 18).trans HV.out.2.2.2.2.2.2.1; have c19 := (HX.out.bx.c 19).trans HV.out.2.2.2.2.2.2.2; have d0 := (HX.out.by_.c 0).trans HV.out.1; have d1 := (HX.out.by_.c 1).trans HV.out.2.1; have d2 := (HX.out.by_.c 2).trans HV.out.2.2.1; have d3 := (HX.out.by_.c 3).trans HV.out.2.2.2.1; have d4 := (HX.out.by_.c 4).trans HV.out.2.2.2.2.1; have d17 := (HX.out.by_.c 17).trans HV.out.2.2.2.2.2.1; have d18 := (HX.out.by_.c 18).trans HV.out.2.2.2.2.2.2.1; have d19 := (HX.out.by_.c 19).trans HV.out.2.2.2.2.2.2.2; clear hb hbx hby)
    | (go_at_call 16; refine (sameI0_c _).mono ?_; rintro e w' ⟨rfl, rfl⟩)
    | fail)
  go_ret
  exact ⟨rfl, Hg.out ▸ HX.out.b⟩
section
variable {w w1 : World} {B a : Nat} {us vs : Array Value} {T : TypeId}
theorem st_below (hb : Below B w w1) (hB : B ≤ w1.heap.size) : Below B w ((w1.alloc (.cells patZ 25)).setRow w1.heap.size vs) := (hb.alloc hB _).setRow hB _
theorem st_new : BX ((w1.alloc (.cells patZ 25)).setRow w1.heap.size vs) w1.heap.size vs 25 := setRow_heap _ _ patZ _ _ _ (BX.new w1 patZ _)
theorem st_old (h : BX w1 a us T) : BX ((w1.alloc (.cells patZ 25)).setRow w1.heap.size vs) a us T := (setRow_other _ _ _ _ (Nat.ne_of_lt h.lt)).trans (h.alloc _)
end
/-- The chapter's example. -/
def ex1 : List Nat := [35, 44, 35, 35, 48, 46, 48, 48, 35]
def exP : NF := { minInt := 1, minFrac := 2, maxFrac := 3, prim := 3, sec := 3 }
theorem ex1_num : numZ ex1 = (exP, 0) := by decide
theorem ex2_num : numZ [48, 46] = ({}, 4) := by decide
theorem ex1_pr : prN exP 0 = ex1 := by decide
end Go.Proofs.YtbjelkejifgnfaaGreatDoor
