/-
  PT: the text of a number's elements: strings.Builder.
-/
import Derived.Shelf.Strings.BuilderF
import Derived.Lib.UnsafeStr
import Derived.Laws.Externs
import Derived.Test.YtbjelkejifgnfaaGreatDoorPG
set_option maxRecDepth 100000
namespace Go.Proofs.YtbjelkejifgnfaaGreatDoor
open Go.RowKit
/-- A builder at block b: its own address, its row, its bytes. -/
structure Bld (w : World) (b : Nat) (p v : Value) (l : List Nat) : Prop where
  bx : BX w b #[p, v] 127
  own : w.ownsRow (b + 1) 5 1 v l.length (u8s l)
theorem bld_info : (Tryz.prog.info? 127).map (·.size) = some 2 := by kernel_rfl
theorem bld_lies : liesAt Tryz.prog Tryz.prog.depth 127 (2 / Tryz.prog.cellsOf 127) 0 127 1 = true := by kernel_rfl
set_option maxHeartbeats 2000000 in
theorem copyCheck0 (b : Nat) (v : Value) (l : List Nat) (w : World) (h : Bld w b (.pointer none) v l) : Calls Tryz.prog 95 #[.pointer (some ⟨b, 0, none⟩)] w fun e w' =>
    e = .returned (.tuple #[]) ∧ w' = w.setCell ⟨b, 0, none⟩ (.pointer (some ⟨b, 0, none⟩)) := by
  obtain ⟨j, hj, hjs⟩ := Option.map_eq_some_iff.1 bld_info
  have d0 := h.bx.c 0
  have f0 := h.bx.fr 0
  have hsh : w.shape? b = some (127, 2) := by simp [World.shape?, show w.heap[b]? = _ from h.bx]
  clear h
  go_enter Tryz.func95, Tryz.ntmps95
  go_wp2
  rw [Lib.run_to_unsafe w ⟨b, 0, none⟩ Tryz.underlying125 Tryz.underlying171 hj (by rw [hjs]; decide) hsh (Nat.zero_lt_succ 1)]
  simp only [Result.andThen]
  rw [Oper.upon_value]
  go_wp2
  rw [run_callFunc_extern Tryz.func121 (by kernel_rfl) (by kernel_rfl) (by kernel_rfl) (e := Extern.AbiNoEscape.same) (by kernel_rfl)]
  rw [Lib.run_noEscape]
  simp only [Result.andThen]
  rw [Oper.upon_value]
  go_wp2
  rw [Lib.run_from_unsafe w ⟨b, 0, none⟩ Tryz.underlying171 Tryz.underlying125 hj hsh bld_lies]
  simp only [Result.andThen]
  rw [Oper.upon_value]
  go_wp2
  go_end0
  exact ⟨rfl, rfl⟩
set_option maxHeartbeats 2000000 in
theorem copyCheck1 (b : Nat) (v : Value) (l : List Nat) (w : World) (h : Bld w b (.pointer (some ⟨b, 0, none⟩)) v l) : Calls Tryz.prog 95 #[.pointer (some ⟨b, 0, none⟩)] w fun e w' =>
    e = .returned (.tuple #[]) ∧ w' = w := by
  obtain ⟨j, hj, hjs⟩ := Option.map_eq_some_iff.1 bld_info
  have d0 := h.bx.c 0
  clear h
  go_enter Tryz.func95, Tryz.ntmps95
  go_wp2
  rw [Lib.run_neq_ptr_same w _ Tryz.underlying125 hj]
  go_wp2
  go_end0
  exact ⟨rfl, rfl⟩
theorem copyCheck_c (b : Nat) (p v : Value) (l : List Nat) (w : World) (hp : p = .pointer none ∨ p = .pointer (some ⟨b, 0, none⟩)) (h : Bld w b p v l) : Calls Tryz.prog 95 #[.pointer (some ⟨b, 0, none⟩)] w fun e w' =>
    e = .returned (.tuple #[]) ∧ Hid (Bld w' b (.pointer (some ⟨b, 0, none⟩)) v l) ∧ Hid (Below b w w') := by
  rcases hp with rfl | rfl
  · refine (copyCheck0 b v l w h).mono ?_
    rintro e w' ⟨rfl, rfl⟩
    exact ⟨rfl, Lib.hid ⟨heap_setCell_same w b 0 _ _ _ h.bx, own_setCell h.own (p := ⟨b, 0, none⟩) (Nat.lt_succ_self b) _⟩, Lib.hid ((Below.refl b w).setCell (p := ⟨b, 0, none⟩) (Nat.le_refl _) _)⟩
  · refine (copyCheck1 b v l w h).mono ?_
    rintro e w' ⟨rfl, rfl⟩
    exact ⟨rfl, Lib.hid h, Lib.hid (Below.refl _ _)⟩
set_option maxHeartbeats 1000000 in
theorem appendRune_c (base : Nat) (v : Value) (l : List Nat) (x : Nat) (w : World) (h : w.ownsRow base 5 1 v l.length (u8s l)) (hx : x < 128) (hl : l.length ≤ 1000000) (hb : base ≤ w.heap.size) :
    Calls Tryz.prog 96 #[v, .int .i32 (x : Int)] w fun e w' => ∃ A c, e = .returned (.slice A (l.length + 1) c) ∧ Hid (w'.ownsRow base 5 1 (.slice A (l.length + 1) c) (l.length + 1) (u8s (l ++ [x]))) ∧ Hid (Below base w w') := by
  obtain ⟨A, c, rfl⟩ := own_form h
  have HO := Lib.hid h
  have g1 : IntKind.u32.wrap (x : Int) = (x : Int) := by
    have : (x : Int) % 4294967296 = x := Int.emod_eq_of_lt (by omega) (by omega)
    simpa [IntKind.wrap, IntKind.bits, IntKind.signed] using this
  have g2 : IntKind.u8.wrap (x : Int) = (x : Int) := by
    have : (x : Int) % 256 = x := Int.emod_eq_of_lt (by omega) (by omega)
    simpa [IntKind.wrap, IntKind.bits, IntKind.signed] using this
  have g3 : (x : Int) ≤ 127 := by omega
  clear h
  go_enter Tryz.func96, Tryz.ntmps96
  go_wp2_with (at_builtin; go_must (refine wpList_app_u8 rfl (.tmp 8) (.tmp 11) _ rfl Tryz.underlying43 base (.slice A l.length c) l.length l rfl HO.out _ rfl x rfl (by omega) (Below.refl _ _) hb ?_))
  intro v' w' p1 p2
  obtain ⟨A4, c4, rfl⟩ := own_form p1.out
  go_wp2
  go_ret
  exact ⟨_, _, rfl, p1, p2⟩
set_option maxHeartbeats 2000000 in
theorem writeRune_c (b : Nat) (p v : Value) (l : List Nat) (x : Nat) (w : World) (hp : p = .pointer none ∨ p = .pointer (some ⟨b, 0, none⟩)) (h : Bld w b p v l) (hx : x < 128) (hl : l.length ≤ 1000000) :
    Calls Tryz.prog 64 #[.pointer (some ⟨b, 0, none⟩), .int .i32 (x : Int)] w fun e w' => e = .returned (.tuple #[.int .i64 1, .nilIface]) ∧ ∃ v', Hid (Bld w' b (.pointer (some ⟨b, 0, none⟩)) v' (l ++ [x])) ∧ Hid (Below b w w') := by
  have HC := Lib.hid (copyCheck_c b p v l w hp h)
  obtain ⟨A, c, rfl⟩ := own_form h.own
  clear h hp
  go_enter Tryz.func64, Tryz.ntmps64
  go_upto_region 4 with (first
    | (go_at_call 95; refine HC.out.mono ?_; rintro e w1 ⟨rfl, h1, hb1⟩; have d1 := h1.out.bx.c 1)
    | (go_at_call 96; refine (appendRune_c (b + 1) _ l x w1 h1.out.own hx hl h1.out.bx.lt).mono ?_; rintro e w2 ⟨A2, c2, rfl, ho2, hb2⟩; have hx2 := h1.out.bx.below hb2.out (Nat.lt_succ_self b); have e1 := hx2.c 1; have e2 := hx2.fr 1)
    | fail)
  have HN : Hid (Bld (w2.setCell ⟨b, 1, none⟩ (.slice A2 (l.length + 1) c2)) b (.pointer (some ⟨b, 0, none⟩)) (.slice A2 (l.length + 1) c2) (l ++ [x])) := Lib.hid ⟨heap_setCell_same w2 b 1 _ _ _ hx2, by
    rw [List.length_append]
    exact own_setCell ho2.out (p := ⟨b, 1, none⟩) (Nat.lt_succ_self b) _⟩
  have HB := Lib.hid ((hb1.out.trans (hb2.out.mono (Nat.le_succ b))).setCell (p := ⟨b, 1, none⟩) (Nat.le_refl _) (.slice A2 (l.length + 1) c2))
  generalize w2.setCell ⟨b, 1, none⟩ (.slice A2 (l.length + 1) c2) = W3 at *
  clear d1 e1 e2 hx2 ho2 hb1 hb2 h1
  have d1 := HN.out.bx.c 1
  go_wp2
  go_ret2
  refine ⟨?_, _, HN, HB⟩
  show Ending.returned (.tuple #[.int .i64 (((l.length : Nat) : Int) + 1 - ((l.length : Nat) : Int)), .nilIface]) = _
  rw [show ((l.length : Nat) : Int) + 1 - ((l.length : Nat) : Int) = 1 by omega]
theorem isS_must (W : World) (v : Value) : (Instr.typeAssert (.iface 110 v) 83 110 false).run Tryz.prog W = .ok v W := by kernel_rfl
theorem chE_take {es : List El} {k : Nat} (h : k < es.length) : chE (es.take (k + 1)) = chE (es.take k) ++ [es[k].1.1.toNat] := by
  unfold chE
  rw [List.take_succ_eq_append_getElem h, List.map_append]; rfl
theorem single_field (x y z : Value) (w : World) : (Instr.field 110 (.agg #[x, y, z]) 0).run Tryz.prog w = .ok (.agg #[x, y, z]) w := by kernel_rfl
theorem token_field (x y z : Value) (w : World) : (Instr.field 62 (.agg #[x, y, z]) 0).run Tryz.prog w = .ok x w := by kernel_rfl
attribute [local go_sem] single_field token_field in
set_option maxHeartbeats 2000000 in
theorem text16_c {D : Nat} (A : Option Addr) (n c : Nat) (es : List El) (w : World) (h : Pls w D A n es) (hn : n ≤ 1000) (hs : ∀ e ∈ es, e.2 = false ∧ e.1.1 < 128) :
    Calls Tryz.prog 44 #[.slice A n c] w fun e w' => e = .returned (.string (stz (chE es))) ∧ Hid (Below w.heap.size w w') := by
  have HLn := Lib.hid h.len
  have HW := Lib.hid (h.below (below_new w (.cells #[.pointer none, .slice none 0 0] 127)))
  have HB0 := Lib.hid (below_new w (.cells #[.pointer none, .slice none 0 0] 127))
  have HBL : Hid (Bld (w.alloc (.cells #[.pointer none, .slice none 0 0] 127)) w.heap.size (.pointer none) (.slice none 0 0) []) := Lib.hid ⟨BX.new _ _ _, World.ownsRow_nil _ _ _ _⟩
  have HS := Lib.hid hs
  have hDg := h.2.1
  clear h hs
  go_enter Tryz.func44, Tryz.ntmps44
  go_upto_region 2 with fail
  generalize w.alloc (.cells #[.pointer none, .slice none 0 0] 127) = W0 at *
  generalize hg : w.heap.size = g at *
  have HGe := Lib.hid hg
  clear hg
  go_wp2
  go_loopw [8] (fun iv wr => ∃ (k : Nat) (p v : Value), k ≤ n ∧ iv = .int .i64 (k : Int) ∧ (p = .pointer none ∨ p = .pointer (some ⟨g, 0, none⟩)) ∧ Bld wr g p v (chE (es.take k)) ∧ Below g W0 wr) (fun iv _ => n - (intOf iv).toNat)
  case atStart => exact ⟨0, _, _, Nat.zero_le _, rfl, .inl rfl, HBL.out, Below.refl _ _⟩
  case round =>
    obtain ⟨k, p, v, hk, rfl, hp, hbl, hb0⟩ := hrel
    have HBl := Lib.hid hbl
    have HB := Lib.hid hb0
    have HP := Lib.hid hp
    have HT := Lib.hid (HW.out.belowD hb0 hDg)
    clear hbl hb0 hp
    by_cases hlt : k < n
    · have hks : k < es.length := by rw [HLn.out]; exact hlt
      obtain ⟨ad, rfl, hbk, c0, hz⟩ := HT.out.at_ hlt
      rw [el4_eq hks] at c0 hz
      have HTK := Lib.hid (chE_take hks)
      obtain ⟨hq1, hq2⟩ := HS.out _ (List.getElem_mem hks)
      have hll : (chE (es.take k)).length ≤ 1000000 := by
        rw [chE, List.length_map, List.length_take]; omega
      generalize es[k] = ek at *
      obtain ⟨⟨r, q, a⟩, pd⟩ := ek
      obtain ⟨x, rfl, -⟩ := isZ_form hz
      obtain rfl : pd = false := hq1
      have hx : x < 128 := by dsimp only at hq2; omega
      rw [pE_s] at c0
      have h1 := isS_must
      have HC := Lib.hid (writeRune_c g p v _ x wr HP.out HBl.out hx hll)
      clear hz hq2
      go_wp2_with (first
        | (go_at_call 64; refine HC.out.mono ?_; rintro e w1 ⟨rfl, v1, h2, hb2⟩)
        | fail)
      go_roundw
      case rel => exact ⟨k + 1, _, _, by omega, by go_num, .inr rfl, by rw [HTK.out]; exact h2.out, HB.out.trans hb2.out⟩
      case measure => simp [intOf]; omega
    · obtain rfl : k = n := by omega
      have hte : es.take k = es := List.take_of_length_le (by rw [HLn.out]; exact Nat.le_refl _)
      rw [hte] at HBl
      have hlt : ∀ y ∈ chE es, y < 256 := by
        intro y hy
        obtain ⟨e, he, rfl⟩ := List.mem_map.1 hy
        have := (HS.out e he).2
        omega
      have hu : u8s (chE es) = Lib.byteCells ((chE es).map UInt8.ofNat) := by
        unfold u8s Lib.byteCells
        rw [List.map_map]
        refine List.map_congr_left fun y hy => ?_
        have := hlt y hy
        simp only [Function.comp]
        rw [show (UInt8.ofNat y).toNat = y by simp; omega]
      have hIB : Lib.IsBuilder 127 5 g g (Lib.byteCells ((chE es).map UInt8.ofNat)) wr := by
        have hone : Lib.BuilderAt 127 5 g g p (Lib.byteCells ((chE es).map UInt8.ofNat)) wr := by
          refine ⟨Nat.le_refl _, v, HBl.out.bx, ?_, ?_⟩
          · rw [← hu, u8s_length]
            exact own_weaken HBl.out.own (Nat.le_succ _)
          · intro e
            have := (HBl.out.own.lt _ e).1
            omega
        rcases HP.out with rfl | rfl
        · exact .inl hone
        · exact .inr hone
      have HC := Lib.hid (Tryz.Builder_String_any g g _ wr hIB (Nat.le_of_lt HBl.out.bx.lt))
      clear hIB hu hlt hte
      go_wp2_with (first
        | (go_at_call 65; refine HC.out.mono ?_; rintro e w1 ⟨rfl, hb2⟩)
        | fail)
      go_ret
      exact ⟨rfl, Lib.hid (HGe.out ▸ HB0.out.trans (HB.out.trans hb2))⟩
end Go.Proofs.YtbjelkejifgnfaaGreatDoor
