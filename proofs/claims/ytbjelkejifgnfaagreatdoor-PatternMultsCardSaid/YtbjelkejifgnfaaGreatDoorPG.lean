/-
  PG: a half of a pattern, cut.
-/
import Derived.Test.YtbjelkejifgnfaaGreatDoorPF
set_option maxRecDepth 100000
namespace Go.Proofs.YtbjelkejifgnfaaGreatDoor
open Go.RowKit
def hfV (b : Int) (l : Bool) (x y z : Value) : Array Value := #[.int .i64 b, .bool l, x, y, z]
/-- A half in memory. -/
structure HfM (w : World) (D : Nat) (v : Value) (b : Int) (l : Bool) (es : List El) : Prop where
  f : ∃ A1 n1 c1 A2 n2 c2 A3 n3 c3, v = .agg #[.int .i64 b, .bool l, .slice A1 n1 c1, .slice A2 n2 c2, .slice A3 n3 c3] ∧ Pls w D A1 n1 (hpre es) ∧ Pls w D A2 n2 (hnum es) ∧ Pls w D A3 n3 (hsuf es) ∧ Cp A1 n1 c1 ∧ Cp A2 n2 c2 ∧ Cp A3 n3 c3
theorem HfM.below {w w' : World} {D : Nat} {v : Value} {b : Int} {l : Bool} {es : List El} (h : HfM w D v b l es) (hb : Below w.heap.size w w') : HfM w' D v b l es := by
  obtain ⟨A1, n1, c1, A2, n2, c2, A3, n3, c3, e, h1, h2, h3, l1, l2, l3⟩ := h
  exact ⟨A1, n1, c1, A2, n2, c2, A3, n3, c3, e, h1.below hb, h2.below hb, h3.below hb, l1, l2, l3⟩
/-- The walk's world: the half in its box g, the result's box behind it. -/
structure HCX (w W : World) (g : Nat) (b : Int) (l : Bool) (x y z : Value) : Prop where
  bb : Below g w W
  bx : BX W g #[.int .i64 b, .bool l, x, y, z] 49
  br : BX W (g + 1) #[.int .i64 0, .bool false, .slice none 0 0, .slice none 0 0, .slice none 0 0] 49
section
variable {w W W' : World} {g D : Nat} {b : Int} {l : Bool} {x y z v : Value} {A : Option Addr} {n : Nat} {es : List El}
theorem HCX.new (w : World) (b : Int) (l : Bool) (x y z : Value) : HCX w ((w.alloc (.cells #[.int .i64 b, .bool l, x, y, z] 49)).alloc (.cells #[.int .i64 0, .bool false, .slice none 0 0, .slice none 0 0, .slice none 0 0] 49)) w.heap.size b l x y z :=
  ⟨((Below.refl _ _).alloc (Nat.le_refl _) _).alloc (by simp) _, (BX.new _ _ _).alloc _, by have := BX.new (w.alloc (.cells #[.int .i64 b, .bool l, x, y, z] 49)) #[.int .i64 0, .bool false, .slice none 0 0, .slice none 0 0, .slice none 0 0] 49; simpa using this⟩
theorem HCX.below (h : HCX w W g b l x y z) (hb : Below W.heap.size W W') : HCX w W' g b l x y z :=
  ⟨h.bb.trans (hb.mono (Nat.le_of_lt h.bx.lt)), h.bx.below hb h.bx.lt, h.br.below hb h.br.lt⟩
theorem HCX.set2 (h : HCX w W g b l x y z) (v : Value) : HCX w (W.setCell ⟨g, 2, none⟩ v) g b l v y z :=
  ⟨h.bb.setCell (p := ⟨g, 2, none⟩) (Nat.le_refl _) v, heap_setCell_same W g 2 _ _ v h.bx, (heap_setCell_other W ⟨g, 2, none⟩ (g + 1) v (by show g + 1 ≠ g; omega)).trans h.br⟩
theorem HCX.set3 (h : HCX w W g b l x y z) (v : Value) : HCX w (W.setCell ⟨g, 3, none⟩ v) g b l x v z :=
  ⟨h.bb.setCell (p := ⟨g, 3, none⟩) (Nat.le_refl _) v, heap_setCell_same W g 3 _ _ v h.bx, (heap_setCell_other W ⟨g, 3, none⟩ (g + 1) v (by show g + 1 ≠ g; omega)).trans h.br⟩
theorem HCX.set4 (h : HCX w W g b l x y z) (v : Value) : HCX w (W.setCell ⟨g, 4, none⟩ v) g b l x y v :=
  ⟨h.bb.setCell (p := ⟨g, 4, none⟩) (Nat.le_refl _) v, heap_setCell_same W g 4 _ _ v h.bx, (heap_setCell_other W ⟨g, 4, none⟩ (g + 1) v (by show g + 1 ≠ g; omega)).trans h.br⟩
theorem HCX.pls (_h : HCX w W g b l x y z) (hp : Pls W D A n es) (hD : D ≤ g) (j : Nat) (v : Value) : Pls (W.setCell ⟨g, j, none⟩ v) D A n es :=
  hp.belowD ((Below.refl D W).setCell (p := ⟨g, j, none⟩) hD v) (Nat.le_refl _)
end
set_option maxHeartbeats 2000000 in
theorem cut16_c {D : Nat} (b : Int) (l : Bool) (x y z : Value) (A : Option Addr) (n c : Nat) (es : List El) (w : World) (h : Pls w D A n es) (hc : Cp A n c) :
    Calls Tryz.prog 40 #[.agg #[.int .i64 b, .bool l, x, y, z], .slice A n c] w fun e w' => ∃ v, e = .returned v ∧ HfM w' D v b l es ∧ Hid (Below w.heap.size w w') := by
  have HX := Lib.hid (HCX.new w b l x y z)
  have H := Lib.hid (h.belowD HX.out.bb h.2.1)
  have HZ := Lib.hid h.z
  have hDg : D ≤ w.heap.size := h.2.1
  clear h
  go_enter Tryz.func40, Tryz.ntmps40
  go_upto_region 2 with fail
  generalize (w.alloc (.cells #[.int .i64 b, .bool l, x, y, z] 49)).alloc (.cells #[.int .i64 0, .bool false, .slice none 0 0, .slice none 0 0, .slice none 0 0] 49) = W0 at *
  generalize hg : w.heap.size = g at *
  have HGe := Lib.hid hg
  clear hg
  go_upto_region 3 with (first
    | (go_at_call 39; refine (of16_c rowB _).mono ?_; rintro e w1 ⟨B, rfl, hB, hS, hb1⟩)
    | (go_at_call 38; refine (upToOf_c rowB bdy B A n c es w1 (H.out.below hb1) hc lo_row (by decide) (fun e he => cls_row (HZ.out e he)) hB hS.out).mono ?_; rintro e w2 ⟨A1, n1, c1, A2, n2, c2, rfl, h1, h2, hc1, hc2, hb2⟩; have HX2 := Lib.hid (HX.out.below (hb1.trans (hb2.out.mono hb1.size))); have d2 := HX2.out.bx.c 2; have f2 := HX2.out.bx.fr 2)
    | fail)
  have HX3 := Lib.hid (HX2.out.set2 (.slice A1 n1 c1))
  have HP1 := Lib.hid (HX2.out.pls h1.out (HGe.out ▸ hDg) 2 (.slice A1 n1 c1))
  have HP2 := Lib.hid (HX2.out.pls h2.out (HGe.out ▸ hDg) 2 (.slice A1 n1 c1))
  generalize w2.setCell ⟨g, 2, none⟩ (.slice A1 n1 c1) = W3 at *
  clear d2 f2 h1 h2 hb1 hb2 HX2 hS hB HX H
  go_upto_region 4 with (first
    | (go_at_call 57; refine (behindNum_c A2 n2 c2 _ W3 HP2.out hc2).mono ?_; rintro e w3 ⟨A3, n3, c3, rfl, h3, hc3, hb3⟩; have HX4 := Lib.hid (HX3.out.below hb3.out); have d4 := HX4.out.bx.c 4; have f4 := HX4.out.bx.fr 4)
    | fail)
  have HX5 := Lib.hid (HX4.out.set4 (.slice A3 n3 c3))
  have HP3 := Lib.hid (HX4.out.pls h3.out (HGe.out ▸ hDg) 4 (.slice A3 n3 c3))
  have HP4 := Lib.hid (HX4.out.pls (HP1.out.below hb3.out) (HGe.out ▸ hDg) 4 (.slice A3 n3 c3))
  have HP5 := Lib.hid (HX4.out.pls (HP2.out.below hb3.out) (HGe.out ▸ hDg) 4 (.slice A3 n3 c3))
  generalize w3.setCell ⟨g, 4, none⟩ (.slice A3 n3 c3) = W5 at *
  clear d4 f4 h3 hb3 HX4 HP1 HP2 HX3
  have hlen : n3 ≤ n2 := by
    rw [← HP3.out.len, ← HP5.out.len]
    exact (bhd_suffix _).length_le
  have hn2 := HP5.out.2.2.1
  obtain ⟨k, rfl⟩ : ∃ k, n2 = k + n3 := ⟨n2 - n3, by omega⟩
  have gk : IntKind.i64.wrap (((k + n3 : Nat) : Int) - (n3 : Int)) = (k : Int) := by
    rw [show ((k + n3 : Nat) : Int) - (n3 : Int) = (k : Int) by omega]
    exact wrap_small _ (by omega) (by omega)
  have hc2l := hc2.1
  have d4 := HX5.out.bx.c 4
  have f3 := HX5.out.bx.fr 3
  have d3 := HX5.out.bx.c 3
  go_upto_region 5 with fail
  have HX6 := Lib.hid (HX5.out.set3 (.slice A2 k c2))
  have HPn : Hid (Pls (W5.setCell ⟨g, 3, none⟩ (.slice A2 k c2)) D A2 k (hnum es)) := Lib.hid (by
    have h1 := (HX5.out.pls HP5.out (HGe.out ▸ hDg) 3 (.slice A2 k c2)).take (k := k) (by omega)
    have e : hnum es = (es.dropWhile fun e => !bdy e).take k := by
      rw [hnum, hrst]
      congr 1
      have e1 := HP5.out.len
      have e2 := HP3.out.len
      rw [hsuf, hrst, e1, e2]; omega
    rw [e]; exact h1)
  have HPs := Lib.hid (HX5.out.pls HP3.out (HGe.out ▸ hDg) 3 (.slice A2 k c2))
  have HPp := Lib.hid (HX5.out.pls HP4.out (HGe.out ▸ hDg) 3 (.slice A2 k c2))
  generalize W5.setCell ⟨g, 3, none⟩ (.slice A2 k c2) = W6 at *
  clear d3 d4 f3 HP3 HP4 HP5 HX5 gk hn2
  have d0 := HX6.out.bx.c 0
  have d1 := HX6.out.bx.c 1
  have d2 := HX6.out.bx.c 2
  have d3 := HX6.out.bx.c 3
  have d4 := HX6.out.bx.c 4
  have r0 := HX6.out.br.c 0
  have r1 := HX6.out.br.c 1
  have r2 := HX6.out.br.c 2
  have r3 := HX6.out.br.c 3
  have r4 := HX6.out.br.c 4
  have q0 := HX6.out.br.fr 0
  have q1 := HX6.out.br.fr 1
  have q2 := HX6.out.br.fr 2
  have q3 := HX6.out.br.fr 3
  have q4 := HX6.out.br.fr 4
  go_wp2
  have hb7 : Below g W6 (((((W6.setCell ⟨g + 1, 0, none⟩ (.int .i64 b)).setCell ⟨g + 1, 1, none⟩ (.bool l)).setCell ⟨g + 1, 2, none⟩ (.slice A1 n1 c1)).setCell ⟨g + 1, 3, none⟩ (.slice A2 k c2)).setCell ⟨g + 1, 4, none⟩ (.slice A3 n3 c3)) :=
    (((((Below.refl g W6).setCell (p := ⟨g + 1, 0, none⟩) (Nat.le_succ g) _).setCell (p := ⟨g + 1, 1, none⟩) (Nat.le_succ g) _).setCell (p := ⟨g + 1, 2, none⟩) (Nat.le_succ g) _).setCell (p := ⟨g + 1, 3, none⟩) (Nat.le_succ g) _).setCell (p := ⟨g + 1, 4, none⟩) (Nat.le_succ g) _
  have HB7 := Lib.hid hb7
  clear hb7
  refine bodyPost_ret (v := .agg #[.int .i64 b, .bool l, .slice A1 n1 c1, .slice A2 k c2, .slice A3 n3 c3]) (by simp [results, Tryz.results40, go_sem, r0, r1, r2, r3, r4]) rfl ⟨_, rfl, ?_, Lib.hid (HGe.out ▸ HX6.out.bb.trans HB7.out)⟩
  have hD : D ≤ g := HGe.out ▸ hDg
  exact ⟨_, _, _, _, _, _, _, _, _, rfl, HPp.out.belowD HB7.out hD, HPn.out.belowD HB7.out hD, HPs.out.belowD HB7.out hD, hc1, ⟨by have := hc2.1; omega, hc2.2⟩, hc3⟩
end Go.Proofs.YtbjelkejifgnfaaGreatDoor
