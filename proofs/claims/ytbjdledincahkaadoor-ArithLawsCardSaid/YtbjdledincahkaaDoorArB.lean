/-
  ArB: a result's box beside the boxes of the parameters; decimals by their value (DV); the calls of numbers by their value.
-/
import Derived.Test.YtbjdledincahkaaDoorArM
import Derived.Lib.MinMax
namespace Go.Proofs.YtbjdledincahkaaDoor
open Go.RowKit
/-- What a cell of a block reads now. -/
def rd (W : World) (g k : Nat) : Value := (W.cell? ⟨g, k, none⟩).getD (.bool false)
def cellR (g : Nat) (w : World) : Prop :=
  w.cell? ⟨g, 0, none⟩ = some (rd w g 0) ∧ w.cell? ⟨g, 1, none⟩ = some (rd w g 1) ∧ w.cell? ⟨g, 2, none⟩ = some (rd w g 2) ∧ w.frozen? ⟨g, 0, none⟩ = false ∧ w.frozen? ⟨g, 1, none⟩ = false ∧ w.frozen? ⟨g, 2, none⟩ = false
/-- Boxes that read so, and one that may be written. -/
def Kept4 (w0 : World) (L : List (Nat × Value × Value × Value)) (g : Nat) (w : World) : Prop :=
  Kept3 w0 L w ∧ (∃ x y z, Box3 w g x y z) ∧ w0.heap.size ≤ g ∧ 0 < g ∧ ∀ t ∈ L, t.1 ≠ g
def Sd4 (w0 : World) (L : List (Nat × Value × Value × Value)) (g : Nat) (w : World) : Prop := (cellsOf3 L w ∧ cellR g w) ∧ Hid (Kept4 w0 L g w)
theorem cellR_of {w : World} {g : Nat} {x y z : Value} (h : Box3 w g x y z) : cellR g w := by
  obtain ⟨c0, c1, c2, f0, f1, f2, -⟩ := h
  refine ⟨?_, ?_, ?_, f0, f1, f2⟩
  · rw [rd, c0]; rfl
  · rw [rd, c1]; rfl
  · rw [rd, c2]; rfl
theorem Sd4.of {w0 w : World} {L : List (Nat × Value × Value × Value)} {g : Nat} (h : Kept4 w0 L g w) : Sd4 w0 L g w := by
  obtain ⟨x, y, z, hb⟩ := h.2.1
  exact ⟨⟨(Sd.of h.1).1, cellR_of hb⟩, Lib.hid h⟩
theorem Kept4.keep {w0 w w' : World} {L : List (Nat × Value × Value × Value)} {g : Nat} (h : Kept4 w0 L g w) (hb : Below w.heap.size w w') : Kept4 w0 L g w' := by
  obtain ⟨x, y, z, hx⟩ := h.2.1
  exact ⟨h.1.keep hb, ⟨x, y, z, hx.keep hb⟩, h.2.2⟩
theorem Sd4.keep {w0 w w' : World} {L : List (Nat × Value × Value × Value)} {g : Nat} (h : Sd4 w0 L g w) (hb : Below w.heap.size w w') : Sd4 w0 L g w' := .of (h.2.out.keep hb)
theorem Sd4.pw {w0 w : World} {L : List (Nat × Value × Value × Value)} {g : Nat} (h : Sd4 w0 L g w) : Pw w := h.2.out.1.1
theorem Sd4.bel {w0 w : World} {L : List (Nat × Value × Value × Value)} {g : Nat} (h : Sd4 w0 L g w) : Below w0.heap.size w0 w := h.2.out.1.2.1
theorem Kept4.drew {w0 w : World} {L : List (Nat × Value × Value × Value)} {g : Nat} (h : Kept4 w0 L g w) : Kept4 w0 L g w.drew := ⟨h.1.drew, h.2.1, h.2.2⟩
theorem box3_store {W : World} {g : Nat} {x y z : Value} (h : Box3 W g x y z) (x' y' z' : Value) : Box3 (((W.setCell ⟨g, 0, none⟩ x').setCell ⟨g, 1, none⟩ y').setCell ⟨g, 2, none⟩ z') g x' y' z' := by
  obtain ⟨c0, c1, c2, f0, f1, f2, hz⟩ := h
  refine ⟨?_, ?_, ?_, ?_, ?_, ?_, ?_⟩
  · go_simp
  · go_simp
  · go_simp
  · go_simp
  · go_simp
  · go_simp
  · simpa using hz
theorem Kept4.store {w0 w : World} {L : List (Nat × Value × Value × Value)} {g : Nat} (h : Kept4 w0 L g w) (x y z : Value) :
    Kept4 w0 L g (((w.setCell ⟨g, 0, none⟩ x).setCell ⟨g, 1, none⟩ y).setCell ⟨g, 2, none⟩ z) := by
  obtain ⟨⟨hP, hb, hL⟩, ⟨x0, y0, z0, hx⟩, hg, hp, hn⟩ := h
  have hb' := ((hb.setCell (p := ⟨g, 0, none⟩) hg x).setCell (p := ⟨g, 1, none⟩) hg y).setCell (p := ⟨g, 2, none⟩) hg z
  have hb2 : Below g w _ := (((Below.refl g w).setCell (p := ⟨g, 0, none⟩) (Nat.le_refl _) x).setCell (p := ⟨g, 1, none⟩) (Nat.le_refl _) y).setCell (p := ⟨g, 2, none⟩) (Nat.le_refl _) z
  exact ⟨⟨hP.below' hb2 hp, hb', fun t ht => (((hL t ht).other (hn t ht) x).other (hn t ht) y).other (hn t ht) z⟩, ⟨x, y, z, box3_store hx x y z⟩, hg, hp, hn⟩
theorem Sd4.store {w0 w : World} {L : List (Nat × Value × Value × Value)} {g : Nat} (h : Sd4 w0 L g w) (x y z : Value) :
    Sd4 w0 L g (((w.setCell ⟨g, 0, none⟩ x).setCell ⟨g, 1, none⟩ y).setCell ⟨g, 2, none⟩ z) := .of (h.2.out.store x y z)
theorem cell_written {W : World} {p : Addr} {x y : Value} (h : (W.setCell p x).cell? p = some y) : (W.setCell p x).cell? p = some x := by
  unfold World.setCell World.cell? at *
  simp only [Array.getElem?_modify] at h ⊢
  rcases hh : W.heap[p.block]? with _ | o
  · rw [hh] at h; simp at h
  · rw [hh] at h
    rcases o with ⟨c, e, fr⟩ | _ <;> simp only [Option.map_some, if_true] at h ⊢
    · by_cases hs : p.spot.isSome
      · rw [if_pos hs] at h; cases h
      · rw [if_neg hs] at h ⊢
        rw [if_neg hs] at h ⊢
        rw [Array.getElem?_setIfInBounds] at h ⊢
        simp only [if_true] at h ⊢
        split
        · rfl
        · rename_i hx; rw [if_neg hx] at h; cases h
    all_goals (first | exact h | (exact absurd h (by simp)))
theorem written3 {W : World} {g : Nat} {x y z : Value} (h : cellR g (((W.setCell ⟨g, 0, none⟩ x).setCell ⟨g, 1, none⟩ y).setCell ⟨g, 2, none⟩ z)) :
    (((W.setCell ⟨g, 0, none⟩ x).setCell ⟨g, 1, none⟩ y).setCell ⟨g, 2, none⟩ z).cell? ⟨g, 0, none⟩ = some x ∧
    (((W.setCell ⟨g, 0, none⟩ x).setCell ⟨g, 1, none⟩ y).setCell ⟨g, 2, none⟩ z).cell? ⟨g, 1, none⟩ = some y ∧
    (((W.setCell ⟨g, 0, none⟩ x).setCell ⟨g, 1, none⟩ y).setCell ⟨g, 2, none⟩ z).cell? ⟨g, 2, none⟩ = some z := by
  obtain ⟨c0, c1, c2, -, -, -⟩ := h
  refine ⟨?_, ?_, cell_written c2⟩
  · rw [World.cell?_setCell_other (w := _) (a := ⟨g, 2, none⟩) (b := ⟨g, 0, none⟩) (v := _) (by simp), World.cell?_setCell_other (w := _) (a := ⟨g, 1, none⟩) (b := ⟨g, 0, none⟩) (v := _) (by simp)] at c0 ⊢
    exact cell_written c0
  · rw [World.cell?_setCell_other (w := _) (a := ⟨g, 2, none⟩) (b := ⟨g, 1, none⟩) (v := _) (by simp)] at c1 ⊢
    exact cell_written c1
theorem kept4_one (w : World) (x1 y1 z1 x y z : Value) (t t' : TypeId) (hP : Pw w) :
    Kept4 w [(w.heap.size, x1, y1, z1)] (w.heap.size + 1) ((w.alloc (.cells #[x1, y1, z1] t)).alloc (.cells #[x, y, z] t')) := by
  have h := kept_one w x1 y1 z1 t hP
  have hb := Box3.new (w.alloc (.cells #[x1, y1, z1] t)) x y z t'
  rw [World.size_alloc] at hb
  have hp := hP.blk
  exact ⟨h.keep ((Below.refl _ _).alloc (Nat.le_refl _) _), ⟨_, _, _, hb⟩, by omega, by omega, by intro u hu; simp at hu; subst hu; simp⟩
theorem kept4_two (w : World) (x1 y1 z1 x2 y2 z2 x y z : Value) (t t' : TypeId) (hP : Pw w) :
    Kept4 w [(w.heap.size, x1, y1, z1), (w.heap.size + 1, x2, y2, z2)] (w.heap.size + 1 + 1) (((w.alloc (.cells #[x1, y1, z1] t)).alloc (.cells #[x2, y2, z2] t)).alloc (.cells #[x, y, z] t')) := by
  have h := kept_two w x1 y1 z1 x2 y2 z2 t hP
  have hb := Box3.new ((w.alloc (.cells #[x1, y1, z1] t)).alloc (.cells #[x2, y2, z2] t)) x y z t'
  rw [World.size_alloc, World.size_alloc] at hb
  have hp := hP.blk
  exact ⟨h.keep ((Below.refl _ _).alloc (Nat.le_refl _) _), ⟨_, _, _, hb⟩, by omega, by omega, by intro u hu; simp at hu; rcases hu with rfl | rfl <;> (dsimp only; omega)⟩
theorem dec_field0 (x y z : Value) (w : World) : (Instr.field 23 (.agg #[x, y, z]) 0).run Tryd.prog w = .ok x w := by kernel_rfl
theorem dec_field1 (x y z : Value) (w : World) : (Instr.field 23 (.agg #[x, y, z]) 1).run Tryd.prog w = .ok y w := by kernel_rfl
theorem dec_field2 (x y z : Value) (w : World) : (Instr.field 23 (.agg #[x, y, z]) 2).run Tryd.prog w = .ok z w := by kernel_rfl
/-- A decimal that may be handed in, whose value is V steps of ten to the power k. -/
structure DV (k : Int) (n : Bool) (s : ByteArray) (e : Int) (V : Int) : Prop where
  ex : ∃ N, DA 30000 s e N ∧ atE n N e k = V
  le : k ≤ e
  lo : -30000 ≤ k
  len : (decs V.natAbs).length ≤ 4900
theorem DV.z {k Z : Int} (h1 : -20000 ≤ k) (h2 : k ≤ 0) (h3 : (decs Z.natAbs).length ≤ 4900) : DV k (zneg Z) (zstr Z) (zexp Z k) Z := by
  refine ⟨⟨nq Z.natAbs, (DA.of_z (B := 20000) (by omega) (by omega) (by omega)).mono (by omega), ?_⟩, ?_, by omega, h3⟩
  · rw [atE_z _ _ _ (Int.le_refl _), Int.sub_self]; simp
  · unfold zexp nexp; split <;> omega
theorem DV.of_da {B : Nat} {k : Int} {n : Bool} {s : ByteArray} {e : Int} {N : Nat} (h : DA B s e N) (hB : B ≤ 30000) (hk : k ≤ e) (hl : -30000 ≤ k) (h3 : (decs (atE n N e k).natAbs).length ≤ 4900) : DV k n s e (atE n N e k) :=
  ⟨⟨N, h.mono hB, rfl⟩, hk, hl, h3⟩
theorem atE_turn (n : Bool) (N : Nat) (e m : Int) : atE (!n) N e m = -atE n N e m := by cases n <;> simp [atE, sv]
theorem DV.turn {k : Int} {n : Bool} {s : ByteArray} {e : Int} {V : Int} (h : DV k n s e V) : DV k (!n) s e (-V) := by
  obtain ⟨⟨N, hd, hv⟩, h1, h2, h3⟩ := h
  exact ⟨⟨N, hd, by rw [atE_turn, hv]⟩, h1, h2, by rwa [Int.natAbs_neg]⟩
/-- Digits of a coefficient, with a 0 where there are none. -/
theorem da_orz {B : Nat} {N : Nat} {e : Int} (h : (decs N).length ≤ 4990) (h1 : -(B : Int) ≤ e) (h2 : e ≤ (B : Int)) : DA B (strD (orZero (decs N))) e N := by
  have hz := strD_size (orZero (decs N))
  have hl : (orZero (decs N)).length ≤ 4991 ∧ 0 < (orZero (decs N)).length := by
    unfold orZero
    split
    · exact ⟨by simp, by simp⟩
    · rename_i hh; exact ⟨by omega, List.length_pos_iff.2 hh⟩
  exact ⟨⟨_, isD_strD (orZero_lt (decs_lt _)), by rw [dval_orZero', dval_decs]⟩, by omega, by omega, h1, h2⟩
theorem digs_len_decs {N k : Nat} (h : (decs N).length ≤ k) : (digs 1000000000 N).length ≤ k := Nat.le_trans (digs_len9 (lt_pow_decs N)) h
theorem shift_n (A : Option Addr) (m c N : Nat) (z : Int) (j : Nat) (w : World) (h : Limbs w A m (digs 1000000000 N)) (hm : m ≤ 100000000) (hz : max z 0 = (j : Int)) (hj : j ≤ 65536) (hP : Pw w) :
    Calls Tryd.prog 38 #[.slice A m c, .int .i64 z] w fun e w' => ∃ A' m' c', e = .returned (.slice A' m' c') ∧ OwnS w' w.heap.size A' m' c' (digs 1000000000 (N * 10 ^ j)) ∧ Below w.heap.size w w' := by
  have := tenShift_c A m c _ z j w h (digs_lt _ (by omega) N) hm hz hj hP
  rwa [val_digs 1000000000 (by omega)] at this
theorem natAdd_n (A A' : Option Addr) (n c n' c' X Y : Nat) (w : World) (h : Limbs w A n (digs 1000000000 X)) (h' : Limbs w A' n' (digs 1000000000 Y)) (hn : n ≤ 100000000) (hn' : n' ≤ 100000000) :
    Calls Tryd.prog 24 #[.slice A n c, .slice A' n' c'] w fun e w' => ∃ A1 m1 c1, e = .returned (.slice A1 m1 c1) ∧ OwnS w' w.heap.size A1 m1 c1 (digs 1000000000 (X + Y)) ∧ Below w.heap.size w w' := by
  have := add_c A A' n c n' c' _ _ w h h' (digs_lt _ (by omega) X) (digs_lt _ (by omega) Y) (by omega) (by omega)
  rwa [val_digs 1000000000 (by omega), val_digs 1000000000 (by omega)] at this
theorem natSub_lt (A A' : Option Addr) (n c n' c' X Y : Nat) (w : World) (h : Limbs w A n (digs 1000000000 X)) (h' : Limbs w A' n' (digs 1000000000 Y)) (hlt : X < Y) :
    Calls Tryd.prog 25 #[.slice A n c, .slice A' n' c'] w fun e w' => e = .returned (.tuple #[.slice none 0 0, .bool false]) ∧ Below w.heap.size w w' :=
  sub_less A A' n c n' c' _ _ w h h' (digs_lt _ (by omega) X) (digs_lt _ (by omega) Y) (by rw [val_digs 1000000000 (by omega), val_digs 1000000000 (by omega)]; exact hlt)
theorem natSub_ge (A A' : Option Addr) (n c n' c' X Y : Nat) (w : World) (h : Limbs w A n (digs 1000000000 X)) (h' : Limbs w A' n' (digs 1000000000 Y)) (hge : Y ≤ X) (hn : n ≤ 100000000) :
    Calls Tryd.prog 25 #[.slice A n c, .slice A' n' c'] w fun e w' => ∃ A1 m1 c1, e = .returned (.tuple #[.slice A1 m1 c1, .bool true]) ∧ OwnS w' w.heap.size A1 m1 c1 (digs 1000000000 (X - Y)) ∧ Below w.heap.size w w' := by
  have := sub_geq A A' n c n' c' _ _ w h h' (digs_lt _ (by omega) X) (digs_lt _ (by omega) Y) (by rw [val_digs 1000000000 (by omega), val_digs 1000000000 (by omega)]; exact hge) (by omega)
  rwa [val_digs 1000000000 (by omega), val_digs 1000000000 (by omega)] at this
theorem natMul_n (A A' : Option Addr) (n c n' c' X Y : Nat) (w : World) (h : Limbs w A n (digs 1000000000 X)) (h' : Limbs w A' n' (digs 1000000000 Y)) (hn : n ≤ 100000000) (hn' : n' ≤ 100000000) :
    Calls Tryd.prog 32 #[.slice A n c, .slice A' n' c'] w fun e w' => ∃ A1 m1 c1, e = .returned (.slice A1 m1 c1) ∧ OwnS w' w.heap.size A1 m1 c1 (digs 1000000000 (X * Y)) ∧ Below w.heap.size w w' := by
  have := mul_c A A' n c n' c' _ _ w h h' (digs_lt _ (by omega) X) (digs_lt _ (by omega) Y) hn hn'
  rwa [val_digs 1000000000 (by omega), val_digs 1000000000 (by omega)] at this
theorem digits_n (A : Option Addr) (m c N : Nat) (w : World) (h : Limbs w A m (digs 1000000000 N)) (hn : m ≤ 100000000) (hP : Pw w) :
    Calls Tryd.prog 39 #[.slice A m c] w fun e w' => e = .returned (.string (strD (orZero (decs N)))) ∧ Below w.heap.size w w' := by
  have := tenDigits_c A m c _ w h (digs_lt _ (by omega) N) hn hP
  rw [val_digs 1000000000 (by omega)] at this
  refine this.mono ?_
  rintro r w' ⟨s, rfl, hs, hb⟩
  exact ⟨by rw [hs.eq_strD], hb⟩
end Go.Proofs.YtbjdledincahkaaDoor
